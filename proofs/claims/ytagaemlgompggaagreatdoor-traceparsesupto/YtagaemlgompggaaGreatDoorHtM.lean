/- A trace's text is not too long; what is printed is parsed as it was. -/
import Derived.Test.YtagaemlgompggaaGreatDoorIcM
import Derived.Test.YtagaemlgompggaaGreatDoorHsM
namespace Go.Proofs.YtagaemlgompggaaGreatDoor
open Go.RowKit
set_option maxRecDepth 100000

theorem numN_low {s : ByteArray} (h0 : 49 ≤ byt s 0) (j : Nat) (h : digN s (j + 1) = true) : (10 : Int) ^ j ≤ numN s (j + 1) := by
  induction j with
  | zero => simp only [numN]; omega
  | succ j ih =>
    have hd := digN_down h (Nat.le_succ _)
    have := ih hd
    unfold digN at h
    simp only [Bool.and_eq_true, decide_eq_true_eq] at h
    rw [show numN s (j + 1 + 1) = 10 * numN s (j + 1) + byt s (j + 1) - 48 from rfl, Int.pow_succ]
    omega
theorem tells_small {s : ByteArray} {n : Int} (h : tellsN s = some n) (hn : n ≤ 255) : s.size ≤ 3 := by
  by_cases hs : noNum s
  · rw [tells_bad hs] at h; cases h
  · rw [tells_good hs] at h
    split at h
    · rename_i hd
      simp at h
      by_cases h3 : s.size ≤ 3
      · exact h3
      · exfalso
        have h1 : ¬ byt s 0 = 48 := fun e => hs (.inr (.inr ⟨by omega, e⟩))
        have hd1 := digN_down hd (show 1 ≤ s.size by omega)
        unfold digN at hd1
        simp only [Bool.and_eq_true, decide_eq_true_eq] at hd1
        obtain ⟨j, hj⟩ : ∃ j, s.size = j + 1 := ⟨s.size - 1, by omega⟩
        rw [hj] at hd h
        have hl := numN_low (by omega) j hd
        have hp : (10 : Int) ^ 3 ≤ (10 : Int) ^ j := by
          have := Nat.pow_le_pow_right (show 0 < 10 by decide) (show 3 ≤ j by omega)
          exact_mod_cast this
        have : (10 : Int) ^ 3 = 1000 := by decide
        omega
    · cases h
theorem undig_small {w : List UInt8} (h0 : 0 ≤ undig w) (h1 : undig w ≤ 255) : w.length ≤ 3 := by
  have hn := undig_none h0
  cases ht : tellsN (mk w) with
  | none => exact absurd ht hn
  | some n =>
    have : undig w = n := by unfold undig; rw [ht]; rfl
    have hs := tells_small ht (by omega)
    rw [size_bl, bl_mk] at hs
    exact hs
theorem sum_le {l : List (List UInt8)} {b : Nat} (h : ∀ x ∈ l, x.length ≤ b) : (l.map List.length).sum ≤ b * l.length := by
  induction l with
  | nil => simp
  | cons a l ih =>
    have h1 := h a (List.mem_cons_self ..)
    have h2 := ih (fun x hx => h x (List.mem_cons_of_mem _ hx))
    simp only [List.map_cons, List.sum_cons, List.length_cons, Nat.mul_add, Nat.mul_one]
    omega
theorem line_len {x f : List UInt8} (h : headP x = f) (hr : (rowP x).length ≤ 20) (hn : ∀ n ∈ rowP x, 0 ≤ n ∧ n ≤ 255) : x.length ≤ f.length + 80 := by
  have hs := splitL_len 32 x
  unfold headP at h
  unfold rowP at hr hn
  cases hx : splitL 32 x with
  | nil => exact absurd hx (splitL_ne _ _)
  | cons a l =>
    rw [hx] at hs h hr hn
    simp only [List.headD_cons, List.drop_succ_cons, List.drop_zero, List.length_map, List.map_cons, List.sum_cons, List.length_cons] at hs h hr hn
    have h3 := sum_le (b := 3) (fun w hw => undig_small (hn _ (List.mem_map.2 ⟨w, hw, rfl⟩)).1 (hn _ (List.mem_map.2 ⟨w, hw, rfl⟩)).2)
    subst h
    omega
theorem plain_len {L : List (List UInt8)} {y : List Int × List (List Int)} (h : plainP L = some y) : (L.map List.length).sum + L.length ≤ 3490 := by
  match L, h with
  | x :: a :: r, h =>
    unfold plainP at h
    dsimp only at h
    split at h
    · rename_i hc
      split at h
      · rename_i hf
        obtain ⟨h41, hn⟩ := fitL_near hf
        rw [List.length_map] at h41
        have hx := hn (rowP x) (List.mem_cons_self ..)
        have l0 := line_len hc.2.1 hx.1 hx.2
        have l1 : ∀ z ∈ (a :: r).dropLast, z.length ≤ 82 := fun z hz => by
          have hz2 := hn (rowP z) (List.mem_cons_of_mem _ (List.mem_map.2 ⟨z, hz, rfl⟩))
          have := line_len (hc.2.2 z hz) hz2.1 hz2.2
          have e : (bl inB).length = 2 := by kernel_rfl
          omega
        have l2 := sum_le l1
        have e5 : (bl startB).length = 5 := by kernel_rfl
        have hd := List.dropLast_concat_getLast (show (a :: r) ≠ [] by simp)
        have hsum : ((a :: r).map List.length).sum = ((a :: r).dropLast.map List.length).sum := by
          rw [hc.1] at hd
          conv => lhs; rw [← hd]
          simp
        have hlen : (a :: r).length = (a :: r).dropLast.length + 1 := by
          rw [List.length_dropLast]; simp
        rw [List.map_cons, List.sum_cons, hsum, List.length_cons, hlen]
        omega
      · cases h
    · cases h
  | [], h => cases h
  | [_], h => cases h
theorem parse_plain (s : ByteArray) : parseF s = plainP (splitL 10 (bl s)) := by
  rw [parse_pieces, ← plain_parse]
  split
  · rename_i hb
    cases hp : plainP (splitL 10 (bl s)) with
    | none => rfl
    | some y =>
      exfalso
      have h1 := plain_len hp
      rw [splitL_len, ← size_bl] at h1
      omega
  · rfl

/-! What is printed is parsed as it was. -/
theorem itoa_byte : ((List.range 256).all fun n => tellsN (itoaB (n : Int)) == some (n : Int) && (bl (itoaB (n : Int))).all (fun b => b != 32 && b != 10)) = true := by kernel_rfl
theorem itoa_near {n : Int} (h0 : 0 ≤ n) (h1 : n ≤ 255) : undig (bl (itoaB n)) = n ∧ (32 : UInt8) ∉ bl (itoaB n) ∧ (10 : UInt8) ∉ bl (itoaB n) := by
  obtain ⟨k, rfl⟩ : ∃ k : Nat, n = k := ⟨n.toNat, by omega⟩
  have h := List.all_eq_true.1 itoa_byte k (List.mem_range.2 (by omega))
  simp only [Bool.and_eq_true, beq_iff_eq, List.all_eq_true, bne_iff_ne] at h
  refine ⟨?_, fun e => (h.2 _ e).1 rfl, fun e => (h.2 _ e).2 rfl⟩
  unfold undig
  rw [mk_bl, h.1]
  rfl
theorem lineN_flat (ws : List ByteArray) : ∀ k, k ≤ ws.length → ∀ a : ByteArray, lineN (a :: ws) (k + 1) = bl a ++ (ws.take k).flatMap (fun w => 32 :: bl w) := by
  intro k
  induction k with
  | zero => intro _ a; simp [lineN]
  | succ k ih =>
    intro hk a
    rw [lineN_succ (k := k + 1) (by simp; omega), ih (by omega) a, if_neg (by omega), List.take_succ_eq_append_getElem (by omega), List.flatMap_append]
    simp [List.append_assoc]
theorem split_words {a : List UInt8} {ws : List (List UInt8)} (ha : (32 : UInt8) ∉ a) (hw : ∀ w ∈ ws, (32 : UInt8) ∉ w) : splitL 32 (a ++ ws.flatMap (fun w => 32 :: w)) = a :: ws := by
  induction ws generalizing a with
  | nil => simpa using splitL_one ha
  | cons w ws ih =>
    rw [List.flatMap_cons]
    show splitL 32 (a ++ (32 :: w ++ _)) = _
    rw [List.cons_append, splitL_app ha, ih (hw w (List.mem_cons_self ..)) (fun x hx => hw x (List.mem_cons_of_mem _ hx))]
/-- A line without its end. -/
def lnT (f : ByteArray) (ns : List Int) : List UInt8 := bl f ++ (ns.map fun n => bl (itoaB n)).flatMap (fun w => 32 :: w)
theorem lineT_ln (f : ByteArray) (ns : List Int) : lineT f ns = lnT f ns ++ [10] := by
  unfold lineT lnT
  have := lineN_flat (ns.map itoaB) ns.length (by simp) f
  rw [this, List.take_of_length_le (by simp)]
  simp [List.flatMap_map]
theorem ln_words {f : ByteArray} {ns : List Int} (hf : (32 : UInt8) ∉ bl f) (hn : Near ns) : headP (lnT f ns) = bl f ∧ rowP (lnT f ns) = ns := by
  have h := split_words (a := bl f) (ws := ns.map fun n => bl (itoaB n)) hf (fun w hw => by
    obtain ⟨n, hm, rfl⟩ := List.mem_map.1 hw
    exact (itoa_near (hn n hm).1 (hn n hm).2).2.1)
  unfold headP rowP
  show (splitL 32 (lnT f ns)).headD [] = _ ∧ _
  unfold lnT
  rw [h]
  refine ⟨rfl, ?_⟩
  simp only [List.drop_succ_cons, List.drop_zero, List.map_map]
  conv => rhs; rw [← List.map_id ns]
  exact List.map_congr_left fun n hm => (itoa_near (hn n hm).1 (hn n hm).2).1
theorem ln_ten {f : ByteArray} {ns : List Int} (hf : (10 : UInt8) ∉ bl f) (hn : Near ns) : (10 : UInt8) ∉ lnT f ns := by
  unfold lnT
  intro h
  rcases List.mem_append.1 h with h | h
  · exact hf h
  · obtain ⟨w, hw, hm⟩ := List.mem_flatMap.1 h
    obtain ⟨n, hn2, rfl⟩ := List.mem_map.1 hw
    rcases List.mem_cons.1 hm with h | h
    · exact absurd h (by decide)
    · exact (itoa_near (hn n hn2).1 (hn n hn2).2).2.2 h
theorem bodyT_flat (l : List Row) : ∀ k, k ≤ l.length → bodyT l k = (l.take k).flatMap (fun r => lnT inB r.ns ++ [10]) := by
  intro k
  induction k with
  | zero => intro _; simp [bodyT]
  | succ k ih =>
    intro hk
    rw [bodyT_succ (by omega), ih (by omega), List.take_succ_eq_append_getElem (by omega), List.flatMap_append, lineT_ln]
    simp
theorem split_body {l : List Row} (h : ∀ r ∈ l, Near r.ns) : splitL 10 (l.flatMap (fun r => lnT inB r.ns ++ [10])) = l.map (fun r => lnT inB r.ns) ++ [[]] := by
  induction l with
  | nil => rfl
  | cons r l ih =>
    rw [List.flatMap_cons, List.append_assoc, List.singleton_append, splitL_app (ln_ten (by decide +kernel) (h r (List.mem_cons_self ..))), ih (fun q hq => h q (List.mem_cons_of_mem _ hq))]
    rfl
theorem split_print {s : Row} {l : List Row} (hs : Near s.ns) (h : ∀ r ∈ l, Near r.ns) : splitL 10 (printT s l) = lnT startB s.ns :: (l.map (fun r => lnT inB r.ns) ++ [[]]) := by
  unfold printT
  rw [bodyT_flat l l.length (Nat.le_refl _), List.take_length, lineT_ln, List.append_assoc, List.singleton_append, splitL_app (ln_ten (by decide +kernel) hs), split_body h]
theorem print_parse {s : Row} {l : List Row} (h : fitE s l = 0) : parseF (mk (printT s l)) = some (s.ns, l.map Row.ns) := by
  obtain ⟨_, hn⟩ := fitE_zero h
  have hs := (hn s (List.mem_cons_self ..)).2
  have hl : ∀ r ∈ l, Near r.ns := fun r hr => (hn r (List.mem_cons_of_mem _ hr)).2
  rw [parse_plain, bl_mk, split_print hs hl]
  have e0 := ln_words (f := startB) (by decide +kernel) hs
  have hmap : ((l.map (fun r => lnT inB r.ns)).map rowP) = l.map Row.ns := by
    rw [List.map_map]
    exact List.map_congr_left fun r hr => (ln_words (f := inB) (by decide +kernel) (hl r hr)).2
  have key : ∀ P : List (List UInt8), P = l.map (fun r => lnT inB r.ns) ++ [[]] → plainP (lnT startB s.ns :: P) = some (s.ns, l.map Row.ns) := by
    intro P hP
    cases hc : P with
    | nil => rw [hc] at hP; simp at hP
    | cons y r =>
      have hd : (y :: r).dropLast = l.map (fun r => lnT inB r.ns) := by rw [← hc, hP, List.dropLast_concat]
      have hg : (y :: r).getLast (by simp) = [] := by
        have : P.getLast (by rw [hc]; simp) = [] := by simp [hP]
        simpa [hc] using this
      unfold plainP
      dsimp only
      rw [if_pos ⟨hg, e0.1, fun z hz => by
        rw [hd] at hz
        obtain ⟨r, hr, rfl⟩ := List.mem_map.1 hz
        exact (ln_words (f := inB) (by decide +kernel) (hl r hr)).1⟩, hd, hmap, e0.2, fitL_rows, if_pos h]
  exact key _ rfl
end Go.Proofs.YtagaemlgompggaaGreatDoor

namespace Go.Proofs.YtagaemlgompggaaGreatDoor
open Go.RowKit
set_option maxRecDepth 100000

def tgText : ByteArray := ⟨#[115, 116, 97, 114, 116, 32, 48, 10, 105, 110, 10, 105, 110, 10]⟩
theorem tg_parse : parseF tgText = some ([0], [[], []]) := by kernel_rfl
def tgRow (b : Nat) : Row := ⟨some ⟨b, 0, none⟩, [0], 1⟩
def nilRow : Row := ⟨none, [], 0⟩
theorem tg_fit (b : Nat) : fitE (tgRow b) [nilRow, nilRow] = 0 := by simp [fitE, tgRow, nilRow, longB, farB]
theorem tg_print (b : Nat) : printT (tgRow b) [nilRow, nilRow] = [115, 116, 97, 114, 116, 32, 48, 10, 105, 110, 10, 105, 110, 10] := by
  show printT ⟨none, [0], 1⟩ [nilRow, nilRow] = _
  kernel_rfl
end Go.Proofs.YtagaemlgompggaaGreatDoor
