/- A trace's line is read. -/
import Derived.Test.YtfobcnhibhbbaaaGreatDoorHhM
import Derived.Lib.AppendZerosOnto
namespace Go.Proofs.YtfobcnhibhbbaaaGreatDoor
open Go.RowKit
set_option maxRecDepth 100000

/-- The numbers of a text's first line, if it is ended and begins with a word. -/
def readN (s f : ByteArray) : Option (List Int) := match wordsOf (lineOf s) with | a :: l => if endsOf s = true ∧ a.toList = f.toList then tellAll l else none | [] => none
def ReadOut (s f : ByteArray) (v : Value) (r : ByteArray) (b : Bool) (base : Nat) (w : World) : Prop := match readN s f with | some ns => b = true ∧ r = restOf s ∧ w.ownsRow base 3 1 v ns.length (ns.map (Value.int .i64)) | none => b = false ∧ v = .slice none 0 0
theorem own_mono {w : World} {base base' : Nat} {e : TypeId} {v : Value} {n : Nat} {xs : List Value} (h : w.ownsRow base' e 1 v n xs) (hb : base ≤ base') : w.ownsRow base e 1 v n xs := by
  refine ⟨h.1, ?_⟩
  rcases h.2 with hn | ⟨g, cap, cur, hv, hbg, rest⟩
  · exact .inl hn
  · exact .inr ⟨g, cap, cur, hv, by omega, rest⟩
theorem readOut_no {s f a : ByteArray} {l : List ByteArray} {r : ByteArray} {base : Nat} {w : World} (hw : wordsOf (lineOf s) = a :: l) (h : ¬ (endsOf s = true ∧ a.toList = f.toList)) : ReadOut s f (.slice none 0 0) r false base w := by
  have e : readN s f = none := by unfold readN; rw [hw]; exact if_neg h
  unfold ReadOut
  rw [e]
  exact ⟨rfl, rfl⟩
theorem readOut_yes {s f a : ByteArray} {l : List ByteArray} {v : Value} {b : Bool} {base base' : Nat} {w : World} (hw : wordsOf (lineOf s) = a :: l) (h : endsOf s = true ∧ a.toList = f.toList) (hn : NumsOut l v b base' w) (hb : base ≤ base') : ReadOut s f v (restOf s) b base w := by
  have e : readN s f = tellAll l := by unfold readN; rw [hw]; exact if_pos h
  unfold ReadOut
  rw [e]
  unfold NumsOut at hn
  cases h2 : tellAll l with
  | none => rw [h2] at hn; exact hn
  | some ns => rw [h2] at hn; exact ⟨hn.1, rfl, own_mono hn.2 hb⟩
theorem StrsAt.tail {w : World} {b off : Nat} {a : ByteArray} {l : List ByteArray} (h : StrsAt w (some ⟨b, off, none⟩) (a :: l)) : StrsAt w (some ⟨b, off + 1, none⟩) l := fun _ => by
  obtain ⟨g, o, c, fz, h1, h2, h3⟩ := h (by simp)
  cases h1
  exact ⟨b, off + 1, c, fz, rfl, h2, fun i hi => by have := h3 (i + 1) (by simpa using hi); rw [show off + 1 + i = off + (i + 1) by omega, this]; rfl⟩

set_option maxHeartbeats 2000000 in
set_option maxRecDepth 100000 in
theorem readLine_any (s f : ByteArray) (hs : s.size ≤ 100000) (m : Int) (w : World) (hm : w.cell? ⟨1, 0, none⟩ = some (.int .i64 m)) :
    Calls Tryz.prog 24 #[.string s, .string f] w fun e w' => ∃ v r b, e = .returned (.tuple #[v, .string r, .bool b]) ∧ ReadOut s f v r b w.heap.size w' ∧ Below w.heap.size w w' := by
  go_enter Tryz.func24, Tryz.ntmps24
  go_wp2_with fail
  refine (next_any s (by omega) m _ hm).mono ?_
  rintro e w1 ⟨p, rfl, hS, hb⟩
  have hl := wordsOf_len (lineOf s)
  obtain ⟨a, l, hw⟩ : ∃ a l, wordsOf (lineOf s) = a :: l := by
    cases h : wordsOf (lineOf s) with
    | nil => rw [h] at hl; simp at hl
    | cons a l => exact ⟨a, l, rfl⟩
  have hn : l.length ≤ 1000000 := by
    have h1 := Lib.countB_le ⟨#[32]⟩ (by decide) _ (lineOf s) (Nat.le_refl _)
    have h2 := lineOf_size s
    rw [hw, List.length_cons] at hl
    omega
  rw [hw] at hS ⊢
  obtain ⟨g, off, rfl, hc⟩ := hS.cell (by simp)
  have c0 : w1.cell? ⟨g, off, none⟩ = some (.string a) := hc 0 (by simp)
  have HT := hide hS.tail
  have HB := hide hb
  have HW := hide hw
  clear hS hb hw hc hl
  simp only [List.length_cons]
  cases he : endsOf s with
  | false =>
    go_wp2
    go_ret3
    exact ⟨_, _, _, rfl, readOut_no HW.out (by rw [he]; simp), HB.out⟩
  | true =>
    by_cases hf : a.toList = f.toList
    · have hq : (a.toList == f.toList) = true := by simp [hf]
      have HY := hide (fun v b w2 (h : NumsOut l v b w1.heap.size w2) => readOut_yes HW.out ⟨he, hf⟩ h HB.out.size)
      have HH := hide hn
      clear hf he hn
      go_wp2_with fail
      · refine (nums_any (some ⟨g, off, none⟩) 0 [] (by simp) _ (fun h => by simp at h)).mono ?_
        rintro e w2 ⟨v, b, rfl, h1, h2⟩
        have h0 : l = [] := by assumption
        have H1 := hide (HY.out v b w2 (by rw [h0]; exact h1))
        have H2 := hide (HB.out.trans (h2.mono HB.out.size))
        clear h1 h2
        go_wp2
        go_ret3
        exact ⟨_, _, _, rfl, H1.out, H2.out⟩
      · refine (nums_any _ _ l HH.out _ HT.out).mono ?_
        rintro e w2 ⟨v, b, rfl, h1, h2⟩
        have H1 := hide (HY.out _ _ _ h1)
        have H2 := hide (HB.out.trans (h2.mono HB.out.size))
        clear h1 h2
        go_wp2
        go_ret3
        exact ⟨_, _, _, rfl, H1.out, H2.out⟩
    · have hq : (a.toList == f.toList) = false := by simp [hf]
      have HY := hide hf
      clear hf
      go_wp2
      go_ret3
      exact ⟨_, _, _, rfl, readOut_no HW.out (fun h => HY.out h.2), HB.out⟩
end Go.Proofs.YtfobcnhibhbbaaaGreatDoor

namespace Go.Proofs.YtfobcnhibhbbaaaGreatDoor
open Go.RowKit
set_option maxRecDepth 100000

/-- Where the piece that holds the byte i begins; the pieces that end ahead of i. -/
def fromN (s : ByteArray) (c : Int) : Nat → Nat
  | 0 => 0
  | k + 1 => if byt s k = c then k + 1 else fromN s c k
def cutN (s : ByteArray) (c : Int) : Nat → List ByteArray
  | 0 => []
  | k + 1 => if byt s k = c then cutN s c k ++ [s.extract (fromN s c k) k] else cutN s c k
def cutAll (s : ByteArray) (c : Int) : List ByteArray := cutN s c s.size ++ [s.extract (fromN s c s.size) s.size]
theorem fromN_le (s : ByteArray) (c : Int) (k : Nat) : fromN s c k ≤ k := by
  induction k with
  | zero => exact Nat.le_refl _
  | succ k ih => unfold fromN; split <;> omega
theorem cutN_len (s : ByteArray) (c : Int) (k : Nat) : (cutN s c k).length ≤ k := by
  induction k with
  | zero => exact Nat.le_refl _
  | succ k ih =>
    unfold cutN
    split
    · simp; omega
    · omega

theorem appendStr {w : World} {ops : Array Oper} {rest : List Oper} {o : Oper} {a : Act} {Q : Exit → Act → World → Prop} (hgd : o.guard = none) (x y : Operand)
    (ho : o.op = .call { callee := .builtin .append, args := #[x, y], argTypes := #[94, 94] })
    (base : Nat) (v : Value) (l : List ByteArray) (hv : a.eval x = v) (hown : w.ownsRow base 9 1 v l.length (l.map Value.string)) (s : ByteArray) (hy : a.eval y = .slice (some ⟨w.heap.size, 0, none⟩) 1 1)
    (hb : l.length ≤ 1000000000000) (hbase : base ≤ w.heap.size)
    (hK : ∀ v' w', w'.ownsRow base 9 1 v' (l ++ [s]).length ((l ++ [s]).map Value.string) → Below base w w' → wpList Tryz.prog ops Q rest (a.put o.dst v') w') : wpList Tryz.prog ops Q (o :: rest) a (w.alloc (.cells #[.string s] 9)) := by
  obtain ⟨i0, hi, hz0, hz1, hz2⟩ := info_parts info9
  refine wpList_append_own _ hgd x y 94 ho base 9 i0 (.string ⟨#[]⟩) 1 16 Tryz.underlying94 hi hz0 hz1 hz2 rfl (by decide) v l.length _ hv (hown.alloc _) ⟨w.heap.size, 0, none⟩ 1 1 [.string s] hy rfl ?_ ?_ (by unfold maxLen; omega) (by omega) (by simp; omega) ?_
  · intro j u hj
    match j, hj with
    | 0, hj => simp at hj; subst hj; simp [Addr.add]
  · intro u hu; simp at hu; subst hu; rfl
  · intro v' w' h1 h2 _
    exact hK v' w' (by simpa using h1) (((Below.refl base w).alloc hbase _).grown h2 (by simp; omega) (fun j hj => (hown.lt j hj).1))
end Go.Proofs.YtfobcnhibhbbaaaGreatDoor

namespace Go.Proofs.YtfobcnhibhbbaaaGreatDoor
open Go.RowKit
set_option maxRecDepth 100000

theorem ret_int {k : IntKind} {a b : Int} (h : a = b) : Ending.returned (.int k a) = .returned (.int k b) := by rw [h]
theorem ret_bool {a b : Bool} (h : a = b) : Ending.returned (.bool a) = .returned (.bool b) := by rw [h]
def farB (n : Int) : Bool := decide (n < 0) || decide (255 < n)
theorem farB_true {n : Int} : farB n = true ↔ n < 0 ∨ 255 < n := by simp [farB]

set_option maxHeartbeats 400000 in
theorem fit2_any (n : Int) (w : World) : Calls Tryz.prog 42 #[.int .i64 n] w fun e w' => e = .returned (.bool (farB n)) ∧ w' = w := by
  go_enter Tryz.func42, Tryz.ntmps42
  go_wp2
  all_goals
    go_ret
    exact ⟨ret_bool (by rw [Bool.eq_iff_iff, farB_true]; simp; try omega), rfl⟩

def btw (n lo hi : Int) : Bool := decide (lo ≤ n) && decide (n ≤ hi)
theorem btw_true {n lo hi : Int} : btw n lo hi = true ↔ lo ≤ n ∧ n ≤ hi := by simp [btw]
theorem btw_far (n : Int) : btw n 0 255 = !farB n := by
  rw [Bool.eq_iff_iff, btw_true]
  simp [farB]

/-- The place of the first of which f says yes; -1: there is none. -/
def findE {α : Type} (f : α → Bool) (l : List α) : Int := match l.findIdx? f with | some i => (i : Int) | none => -1
theorem findE_ge {α : Type} (f : α → Bool) (l : List α) : decide (0 ≤ findE f l) = l.any f := by
  unfold findE
  cases h : l.findIdx? f with
  | none =>
    rw [List.findIdx?_eq_none_iff] at h
    have : l.any f = false := by rw [List.any_eq_false]; intro x hx; simp [h x hx]
    rw [this]; rfl
  | some i =>
    have : l.any f = true := by
      rw [List.any_eq_true]
      rw [List.findIdx?_eq_some_iff_getElem] at h
      obtain ⟨h1, h2, _⟩ := h
      exact ⟨l[i], List.getElem_mem h1, h2⟩
    rw [this]
    simp
theorem findE_hit {α : Type} (f : α → Bool) (l : List α) (k : Nat) (hk : k < l.length) (h : ∀ i (hi : i < l.length), i < k → f l[i] = false) (hf : f l[k] = true) : findE f l = k := by
  have : l.findIdx? f = some k := by
    rw [List.findIdx?_eq_some_iff_getElem]
    exact ⟨hk, hf, fun j hj => by simp [h j (by omega) hj]⟩
  unfold findE
  rw [this]
theorem findE_miss {α : Type} (f : α → Bool) (l : List α) (h : ∀ i (hi : i < l.length), f l[i] = false) : findE f l = -1 := by
  have : l.findIdx? f = none := by
    rw [List.findIdx?_eq_none_iff]
    intro x hx
    obtain ⟨i, hi, rfl⟩ := List.getElem_of_mem hx
    exact h i hi
  unfold findE
  rw [this]

set_option maxRecDepth 100000 in
set_option maxHeartbeats 2000000 in
theorem indexFar_any (l : List Int) (p : Option Addr) (cap : Nat) (w : World) (hl : l.length ≤ 9223372036854775807) (hI : IntsAt w p l) :
    Calls Tryz.prog 66 #[.slice p l.length cap, .func (.func 42) #[] #[]] w fun e w' => e = .returned (.int .i64 (findE farB l)) ∧ w' = w := by
  have HI := hide hI
  clear hI
  go_enter Tryz.func66, Tryz.ntmps66
  go_wp2
  go_loopw [8] (fun i wr => ∃ k : Nat, k ≤ l.length ∧ i = .int .i64 k ∧ Hid (∀ i (hi : i < l.length), i < k → farB l[i] = false) ∧ wr = w) (fun i _ => l.length - (intOf i).toNat)
  case atStart => exact ⟨0, Nat.zero_le _, rfl, fun i hi h => by omega, rfl⟩
  case round =>
    obtain ⟨k, hk, rfl, hno, rfl⟩ := hrel
    by_cases hlt : k < l.length
    · obtain ⟨b, off, rfl, hc⟩ := HI.out (by omega)
      have hck := hc k hlt
      have HH := hide (findE_hit farB l k hlt hno.out)
      clear hc
      cases hf : farB l[k]
      · have HN : Hid (∀ i (hi : i < l.length), i < k + 1 → farB l[i] = false) := by
          intro i hi h
          rcases Nat.lt_succ_iff_lt_or_eq.1 h with h1 | rfl
          · exact hno.out i hi h1
          · exact hf
        generalize l[k] = x at *
        have HF := hide hf
        clear hf hno HH
        go_wp2_with fail
        refine (fit2_any x _).mono ?_
        rintro e w' ⟨rfl, rfl⟩
        rw [HF.out]
        go_wp2
        go_roundw
        case rel => exact ⟨k + 1, by omega, by go_num, HN, trivial⟩
        case measure => simp [intOf]; omega
      · have HV := hide (HH.out hf)
        generalize l[k] = x at *
        have HF := hide hf
        clear hf hno HH
        go_wp2_with fail
        refine (fit2_any x _).mono ?_
        rintro e w' ⟨rfl, rfl⟩
        rw [HF.out]
        go_wp2
        go_ret
        exact ⟨ret_int HV.out.symm, rfl⟩
    · have HV := hide (findE_miss farB l (fun i hi => hno.out i hi (by omega)))
      go_wp2
      go_ret
      exact ⟨ret_int HV.out.symm, rfl⟩

set_option maxHeartbeats 1000000 in
theorem anyFar_any (l : List Int) (p : Option Addr) (cap : Nat) (w : World) (hl : l.length ≤ 9223372036854775807) (hI : IntsAt w p l) :
    Calls Tryz.prog 40 #[.slice p l.length cap, .func (.func 42) #[] #[]] w fun e w' => e = .returned (.bool (l.any farB)) ∧ w' = w := by
  have HC := hide (indexFar_any l p cap w hl hI)
  have HG := hide (findE_ge farB l)
  clear hI
  generalize findE farB l = x at *
  go_enter Tryz.func40, Tryz.ntmps40
  go_wp2_with fail
  refine HC.out.mono ?_
  rintro e w' ⟨rfl, rfl⟩
  go_wp2
  go_ret
  exact ⟨ret_bool HG.out, rfl⟩
end Go.Proofs.YtfobcnhibhbbaaaGreatDoor

namespace Go.Proofs.YtfobcnhibhbbaaaGreatDoor
open Go.RowKit
set_option maxRecDepth 100000

/-- A list within a row of lists: where it lies, its numbers, its capacity. -/
structure Row where
  at' : Option Addr
  ns : List Int
  cap : Nat
def Row.v (r : Row) : Value := .slice r.at' r.ns.length r.cap
def RowsAt (w : World) (p : Option Addr) (l : List Row) : Prop := 0 < l.length → ∃ b off, p = some ⟨b, off, none⟩ ∧ ∀ i (hi : i < l.length), w.cell? ⟨b, off + i, none⟩ = some l[i].v
theorem RowsAt.later {w w' : World} {p : Option Addr} {l : List Row} (h : RowsAt w p l) (hb : Below w.heap.size w w') : RowsAt w' p l := fun h0 => by
  obtain ⟨b, off, h1, h2⟩ := h h0
  exact ⟨b, off, h1, fun i hi => cell_later hb (h2 i hi)⟩
def longB (r : Row) : Bool := decide (20 < r.ns.length)

set_option maxHeartbeats 400000 in
theorem fit1_any (r : Row) (w : World) : Calls Tryz.prog 39 #[r.v] w fun e w' => e = .returned (.bool (longB r)) ∧ w' = w := by
  obtain ⟨a, ns, cap⟩ := r
  unfold Row.v
  have HE := hide (show longB ⟨a, ns, cap⟩ = decide (20 < ns.length) from rfl)
  simp only
  go_enter Tryz.func39, Tryz.ntmps39
  go_wp2
  go_ret
  exact ⟨ret_bool (by rw [HE.out]; simp; try omega), rfl⟩

set_option maxRecDepth 100000 in
set_option maxHeartbeats 2000000 in
theorem indexLong_any (l : List Row) (p : Option Addr) (cap : Nat) (w : World) (hl : l.length ≤ 9223372036854775807) (hI : RowsAt w p l) :
    Calls Tryz.prog 65 #[.slice p l.length cap, .func (.func 39) #[] #[]] w fun e w' => e = .returned (.int .i64 (findE longB l)) ∧ w' = w := by
  have HI := hide hI
  clear hI
  go_enter Tryz.func65, Tryz.ntmps65
  go_wp2
  go_loopw [8] (fun i wr => ∃ k : Nat, k ≤ l.length ∧ i = .int .i64 k ∧ Hid (∀ i (hi : i < l.length), i < k → longB l[i] = false) ∧ wr = w) (fun i _ => l.length - (intOf i).toNat)
  case atStart => exact ⟨0, Nat.zero_le _, rfl, fun i hi h => by omega, rfl⟩
  case round =>
    obtain ⟨k, hk, rfl, hno, rfl⟩ := hrel
    by_cases hlt : k < l.length
    · obtain ⟨b, off, rfl, hc⟩ := HI.out (by omega)
      have hck := hc k hlt
      have HH := hide (findE_hit longB l k hlt hno.out)
      have HQ := hide (fun w => fit1_any l[k] w)
      clear hc
      generalize hv : l[k].v = v at *
      cases hf : longB l[k]
      · have HN : Hid (∀ i (hi : i < l.length), i < k + 1 → longB l[i] = false) := by
          intro i hi h
          rcases Nat.lt_succ_iff_lt_or_eq.1 h with h1 | rfl
          · exact hno.out i hi h1
          · exact hf
        have HF := hide hf
        have HV := hide hv
        clear hf hno HH hv
        go_wp2_with fail
        refine (HQ.out _).mono ?_
        rintro e w' ⟨rfl, rfl⟩
        rw [HF.out]
        go_wp2
        go_roundw
        case rel => exact ⟨k + 1, by omega, by go_num, HN, trivial⟩
        case measure => simp [intOf]; omega
      · have HV := hide (HH.out hf)
        have HF := hide hf
        clear hf hno HH hv
        go_wp2_with fail
        refine (HQ.out _).mono ?_
        rintro e w' ⟨rfl, rfl⟩
        rw [HF.out]
        go_wp2
        go_ret
        exact ⟨ret_int HV.out.symm, rfl⟩
    · have HV := hide (findE_miss longB l (fun i hi => hno.out i hi (by omega)))
      go_wp2
      go_ret
      exact ⟨ret_int HV.out.symm, rfl⟩

set_option maxHeartbeats 1000000 in
theorem anyLong_any (l : List Row) (p : Option Addr) (cap : Nat) (w : World) (hl : l.length ≤ 9223372036854775807) (hI : RowsAt w p l) :
    Calls Tryz.prog 38 #[.slice p l.length cap, .func (.func 39) #[] #[]] w fun e w' => e = .returned (.bool (l.any longB)) ∧ w' = w := by
  have HC := hide (indexLong_any l p cap w hl hI)
  have HG := hide (findE_ge longB l)
  clear hI
  generalize findE longB l = x at *
  go_enter Tryz.func38, Tryz.ntmps38
  go_wp2_with fail
  refine HC.out.mono ?_
  rintro e w' ⟨rfl, rfl⟩
  go_wp2
  go_ret
  exact ⟨ret_bool HG.out, rfl⟩
end Go.Proofs.YtfobcnhibhbbaaaGreatDoor

namespace Go.Proofs.YtfobcnhibhbbaaaGreatDoor
open Go.RowKit Go.Lib
set_option maxRecDepth 100000

set_option maxHeartbeats 2000000 in
theorem grow0_any (w : World) : Calls Tryz.prog 67 #[.slice none 0 0, .int .i64 0] w fun e w' => e = .returned (.slice none 0 0) ∧ w' = w := by
  go_enter Tryz.func67, Tryz.ntmps67
  go_wp2
  go_ret
  exact ⟨rfl, rfl⟩

set_option maxHeartbeats 2000000 in
theorem grow_any (n : Nat) (h0 : 0 < n) (hn : n ≤ 1000000000) (w : World) :
    Calls Tryz.prog 67 #[.slice none 0 0, .int .i64 n] w fun e w' => ∃ v, e = .returned v ∧ w'.ownsRow w.heap.size 3 1 v 0 [] ∧ Below w.heap.size w w' := by
  obtain ⟨i0, hi, hz, hs, hby⟩ := info_parts info3
  have hold : (Builtin.firstCells i0.size 0 (.slice none 0 0)).run Tryz.prog w.drew = .ok ([] : List Value).toArray w.drew := run_firstCells_none w.drew i0.size 0 0 0
  have hG : n ≤ grownCap w n 0 3 := grownCap_ge w _ _ _
  have hG2 := grownCap_le_maxLen w n 0 3 (by unfold maxLen; omega)
  have hrz : ∀ ty, (Builtin.append_ #[24, 3] ty #[.slice none 0 0, .int .i64 (n : Int)]).run Tryz.prog w =
      .ok (.slice (some ⟨w.heap.size, 0, none⟩) n (grownCap w n 0 3)) (w.drew.alloc (.cells (([] : List Value).toArray ++ Builtin.zeroCells (Value.int .i64 0).cells n ++ Builtin.zeroCells (Value.int .i64 0).cells (grownCap w n 0 3 - n)) 3)) := fun ty => by
    have h := Lib.run_append_grow_zeros w 24 3 ty 3 i0 (.int .i64 0) .i64 .i64 Tryz.underlying24 Tryz.underlying3 hi hz none 0 0 [] hold n h0 (by omega) (by omega) (by omega) (by rw [hby]; omega) (by rw [Nat.zero_add]; exact growslice_fits h0 (by rw [hby]; omega))
    simpa using h
  generalize grownCap w n 0 3 = G at *
  have hw1 : ¬ ((n : Int) < 0) := by omega
  have hw2 : wrap64 ((n : Int) - 0) = n := by unfold wrap64; omega
  have hgt : (n : Int) > 0 := by omega
  clear hold hi hz
  go_enter Tryz.func67, Tryz.ntmps67
  go_wp2_with (at_builtin; refine Lib.wpList_append_run _ rfl _ _ _ _ rfl _ _ rfl rfl _ _ (hrz _) ?_)
  go_ret
  refine ⟨_, rfl, ⟨rfl, Or.inr ⟨w.heap.size, G, _, rfl, Nat.le_refl _, heap_alloc_new w _, Nat.zero_le _, hG2, ?_, ?_⟩⟩, ((Below.refl w.heap.size w).alloc (Nat.le_refl _) _).drew⟩
  · simp [Builtin.zeroCells]
    omega
  · simp
end Go.Proofs.YtfobcnhibhbbaaaGreatDoor
