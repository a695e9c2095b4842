/- Lines: a number that a word tells. -/
import Derived.Test.YtabnimgpednhjaaGreatDoorProg
import Derived.WalkKit
import Derived.WalkSpells
import Derived.WalkLawsBesides
import Derived.Deep.QuietTactic
import Derived.BigQuiet
import Derived.Deep.RegionHeld3
namespace Go.Proofs.YtabnimgpednhjaaGreatDoor
open Go.RowKit
set_option maxRecDepth 100000

theorem hide {p : Prop} (h : p) : Hid p := h

/-- A byte of a text. -/
def byt (s : ByteArray) (i : Nat) : Int := ((s.data.toList.getD i 0).toNat : Int)
theorem byt_bd (s : ByteArray) (i : Nat) : 0 ≤ byt s i ∧ byt s i < 256 := by
  unfold byt
  have := (s.data.toList.getD i 0).toNat_lt
  omega
/-- The first bytes are digits. -/
def digN (s : ByteArray) : Nat → Bool
  | 0 => true
  | k + 1 => digN s k && (decide (48 ≤ byt s k) && decide (byt s k ≤ 57))
/-- What they tell. -/
def numN (s : ByteArray) : Nat → Int
  | 0 => 0
  | k + 1 => 10 * numN s k + byt s k - 48
theorem numN_bd {s : ByteArray} {k : Nat} (h : digN s k = true) : 0 ≤ numN s k ∧ numN s k < 10 ^ k := by
  induction k with
  | zero => simp [numN]
  | succ k ih =>
    simp only [digN, Bool.and_eq_true, decide_eq_true_eq] at h
    have := ih h.1
    simp only [numN]
    have e : (10 : Int) ^ (k + 1) = 10 * 10 ^ k := by rw [Int.pow_succ, Int.mul_comm]
    omega
theorem digN_down {s : ByteArray} {k n : Nat} (h : digN s n = true) (hk : k ≤ n) : digN s k = true := by
  induction n with
  | zero => cases (show k = 0 by omega); exact h
  | succ n ih =>
    by_cases e : k = n + 1
    · subst e; exact h
    · simp only [digN, Bool.and_eq_true] at h; exact ih h.1 (by omega)
/-- The number that a word tells, if it tells one. -/
def tellsN (s : ByteArray) : Option Int := if s.size = 0 ∨ 9 < s.size ∨ (1 < s.size ∧ byt s 0 = 48) then none else if digN s s.size then some (numN s s.size) else none
theorem pow9 {k : Nat} (h : k ≤ 9) : (10 : Int) ^ k ≤ 1000000000 := by
  have : k = 0 ∨ k = 1 ∨ k = 2 ∨ k = 3 ∨ k = 4 ∨ k = 5 ∨ k = 6 ∨ k = 7 ∨ k = 8 ∨ k = 9 := by omega
  rcases this with rfl | rfl | rfl | rfl | rfl | rfl | rfl | rfl | rfl | rfl <;> decide

theorem byt_get {s : ByteArray} {k : Nat} (h : k < s.size) : ((s[k]'h).toNat : Int) = byt s k := by
  obtain ⟨⟨l⟩⟩ := s
  have hl : k < l.length := h
  unfold byt
  simp only [List.getD, List.getElem?_eq_getElem hl, Option.getD_some]
  rfl
theorem toList_nil {s : ByteArray} : s.toList = [] ↔ s.size = 0 := by
  rw [ByteArray.toList_eq, ← List.length_eq_zero_iff]
  exact Iff.rfl
/-- A word that is no number by its length or its first byte. -/
def noNum (s : ByteArray) : Prop := s.size = 0 ∨ 9 < s.size ∨ (1 < s.size ∧ byt s 0 = 48)
theorem tells_bad {s : ByteArray} (h : noNum s) : tellsN s = none := if_pos h
theorem tells_good {s : ByteArray} (h : ¬ noNum s) : tellsN s = if digN s s.size then some (numN s s.size) else none := if_neg h
theorem tells_all {s : ByteArray} (h : ¬ noNum s) (k : digN s s.size = true) : tellsN s = some (numN s s.size) := by rw [tells_good h, if_pos k]
theorem tells_stop {s : ByteArray} {k : Nat} (h : ¬ noNum s) (hk : k < s.size) (hb : byt s k < 48 ∨ 57 < byt s k) : tellsN s = none := by
  rw [tells_good h, if_neg]
  intro e
  have := digN_down (k := k + 1) e hk
  simp only [digN, Bool.and_eq_true, decide_eq_true_eq] at this
  omega
theorem good_one {s : ByteArray} (h3 : ¬ s.toList = []) (h9 : (s.size : Int) ≤ 9) (h1 : 1 < (s.size : Int)) (hi : 0 < s.size) (h0 : (s.toList.isEmpty = true ∨ 9 < (s.size : Int)) ∨ (((s[0]'hi).toNat : Int) == 48) = true) : noNum s := by
  rw [byt_get] at h0
  rcases h0 with (h | h) | h
  · exact absurd (by simpa using h) h3
  · omega
  · exact .inr (.inr ⟨by omega, by simpa using h⟩)
theorem good_two {s : ByteArray} (h3 : ¬ s.toList = []) (h9 : (s.size : Int) ≤ 9) (h0 : s.toList.isEmpty = true ∨ 9 < (s.size : Int)) : False := by
  rcases h0 with h | h
  · exact absurd (by simpa using h) h3
  · omega
theorem num_of {s : ByteArray} (hs : noNum s) (hi : 0 < s.size) (h9 : (s.size : Int) ≤ 9) (e : (((s[0]'hi).toNat : Int) == 48) = false) : False := by
  rw [byt_get] at e
  rcases hs with h | h | ⟨_, h⟩
  · omega
  · omega
  · simp [h] at e
theorem num_one {s : ByteArray} (hs : noNum s) (h3 : ¬ s.toList = []) (h1 : (s.size : Int) ≤ 1) : False := by
  rw [toList_nil] at h3
  unfold noNum at hs
  omega
set_option maxHeartbeats 1000000 in
theorem undigit_any (s : ByteArray) (w : World) :
    Calls Tryz.prog 29 #[.string s] w fun e w' => e = .returned (.int .i64 ((tellsN s).getD (-1))) ∧ w' = w := by
  by_cases hs : noNum s
  · rw [tells_bad hs]
    have HS := hide hs
    clear hs
    go_enter Tryz.func29, Tryz.ntmps29
    go_wp2
    all_goals first
      | (go_ret; exact ⟨rfl, rfl⟩)
      | exact (num_of HS.out ‹_› ‹_› (And.right ‹_›)).elim
      | exact (num_one HS.out ‹_› ‹_›).elim
  · have HA := hide (tells_all hs)
    have HN := hide (fun k => @tells_stop s k hs)
    have hz : s.size ≠ 0 ∧ s.size ≤ 9 := by unfold noNum at hs; omega
    have hi : 0 < s.size := by omega
    have h2 : s.size ≤ 9 := hz.2
    have h3 : ¬ s.toList = [] := by rw [toList_nil]; omega
    have HS := hide hs
    clear hs hz
    generalize tellsN s = T at *
    go_enter Tryz.func29, Tryz.ntmps29
    go_wp2
    all_goals try exact (HS.out (good_one ‹_› ‹_› ‹_› ‹_› ‹_›)).elim
    all_goals try exact (good_two (s := s) ‹_› ‹_› ‹_›).elim
    all_goals
      go_loop [3, 4] (fun o i => ∃ k : Nat, k ≤ s.size ∧ i = .int .i64 k ∧ o = .int .i64 (numN s k) ∧ digN s k = true) (fun _ i => s.size - (intOf i).toNat)
      case atStart => exact ⟨0, Nat.zero_le _, rfl, rfl, rfl⟩
      case round =>
        obtain ⟨k, hk, rfl, rfl, hd⟩ := hrel
        by_cases hlt : k < s.size
        · have hb := numN_bd hd
          have hp := pow9 (k := k) (by omega)
          have hbb := byt_bd s k
          have hg := byt_get hlt
          have HK := hide (HN.out k hlt)
          have HD := hide hd
          clear hd
          by_cases c1 : byt s k < 48
          · go_wp2
            go_ret
            exact ⟨by rw [HK.out (.inl c1)]; rfl, rfl⟩
          by_cases c2 : 57 < byt s k
          · go_wp2
            go_ret
            exact ⟨by rw [HK.out (.inr c2)]; rfl, rfl⟩
          go_wp2
          go_round
          case rel => exact ⟨k + 1, by omega, by go_num, by simp [numN], by simp [digN, HD.out]; omega⟩
          case measure => simp [intOf]; omega
        · obtain rfl : k = s.size := by omega
          go_wp2
          go_ret
          exact ⟨by rw [HA.out hd]; rfl, rfl⟩

/-- What lines.Number hands back. -/
def numR (o : Option Int) : Value := match o with | some n => .tuple #[.int .i64 n, .bool true] | none => .tuple #[.int .i64 0, .bool false]
theorem bad_zero {s : ByteArray} (h3 : ¬ s.toList = []) (hi : ¬ 0 < s.size) : False := h3 (toList_nil.2 (by omega))
theorem bad_long {s : ByteArray} (hs : noNum s) (h0 : (s.toList.isEmpty = false ∧ (s.size : Int) ≤ 9) ∧ (s.size : Int) ≤ 1) : False := by
  refine num_one hs ?_ h0.2
  intro h
  simp [h] at h0
theorem bad_first {s : ByteArray} (hs : noNum s) (hi : 0 < s.size) (h9 : (s.size : Int) ≤ 9) (e : ¬ ((s[0]'hi).toNat : Int) = 48) : False := num_of hs hi h9 (by simpa using e)
theorem good_first {s : ByteArray} (h3 : ¬ s.toList = []) (h9 : (s.size : Int) ≤ 9) (hi : 0 < s.size) (e : ((s[0]'hi).toNat : Int) = 48) (h0 : (s.toList.isEmpty = true ∨ 9 < (s.size : Int)) ∨ 1 < (s.size : Int)) : noNum s := by
  rw [byt_get] at e
  rcases h0 with h | h
  · exact (good_two h3 h9 h).elim
  · exact .inr (.inr ⟨by omega, e⟩)

set_option maxHeartbeats 1000000 in
theorem number_any (s : ByteArray) (w : World) :
    Calls Tryz.prog 72 #[.string s] w fun e w' => e = .returned (numR (tellsN s)) ∧ w' = w := by
  by_cases hs : noNum s
  · rw [tells_bad hs]
    have HS := hide hs
    clear hs
    go_enter Tryz.func72, Tryz.ntmps72
    go_wp2
    all_goals try exact (bad_zero (s := s) ‹_› ‹_›).elim
    all_goals try exact (bad_long HS.out ‹_›).elim
    all_goals try exact (bad_first HS.out ‹_› ‹_› ‹_›).elim
    all_goals go_ret2
    all_goals exact ⟨rfl, rfl⟩
  · have HA := hide (tells_all hs)
    have HN := hide (fun k => @tells_stop s k hs)
    have hz : s.size ≠ 0 ∧ s.size ≤ 9 := by unfold noNum at hs; omega
    have hi : 0 < s.size := by omega
    have h2 : s.size ≤ 9 := hz.2
    have h3 : ¬ s.toList = [] := by rw [toList_nil]; omega
    have HS := hide hs
    clear hs hz
    generalize tellsN s = T at *
    go_enter Tryz.func72, Tryz.ntmps72
    go_wp2
    all_goals try exact (HS.out (good_first ‹_› ‹_› ‹_› ‹_› ‹_›)).elim
    all_goals try exact (good_two (s := s) ‹_› ‹_› ‹_›).elim
    all_goals
      go_loop [4, 5, 6, 26] (fun o _ _ i => ∃ k : Nat, k ≤ s.size ∧ i = .int .i64 k ∧ o = .int .i64 (numN s k) ∧ digN s k = true) (fun _ _ _ i => s.size - (intOf i).toNat)
      case atStart => exact ⟨0, Nat.zero_le _, rfl, rfl, rfl⟩
      case round =>
        obtain ⟨k, hk, rfl, rfl, hd⟩ := hrel
        by_cases hlt : k < s.size
        · have hb := numN_bd hd
          have hp := pow9 (k := k) (by omega)
          have hbb := byt_bd s k
          have hg := byt_get hlt
          have HK := hide (HN.out k hlt)
          have HD := hide hd
          clear hd
          by_cases c1 : byt s k < 48
          · go_wp2
            go_ret2
            exact ⟨by rw [HK.out (.inl c1)]; rfl, rfl⟩
          by_cases c2 : 57 < byt s k
          · go_wp2
            go_ret2
            exact ⟨by rw [HK.out (.inr c2)]; rfl, rfl⟩
          go_wp2
          go_round
          case rel => exact ⟨k + 1, by omega, by go_num, by simp [numN]; omega, by simp [digN, HD.out]; omega⟩
          case measure => simp [intOf]; omega
        · obtain rfl : k = s.size := by omega
          go_wp2
          go_ret2
          exact ⟨by rw [HA.out hd]; rfl, rfl⟩
end Go.Proofs.YtabnimgpednhjaaGreatDoor
