/- Lines: a number that a word tells. -/
import Derived.Test.YtfobcnhibhbbaaaGreatDoorProg
import Derived.WalkKit
import Derived.WalkSpells
import Derived.WalkLawsBesides
import Derived.Deep.QuietTactic
import Derived.BigQuiet
import Derived.Deep.RegionHeld3
import Derived.Shelf.Strings.BuilderK
namespace Go.Proofs.YtfobcnhibhbbaaaGreatDoor
open Go.RowKit
set_option maxRecDepth 100000

theorem hide {p : Prop} (h : p) : Hid p := h

/-- A byte of a text. -/
def byt (s : ByteArray) (i : Nat) : Int := ((s.data.toList.getD i 0).toNat : Int)
theorem byt_bd (s : ByteArray) (i : Nat) : 0 ≤ byt s i ∧ byt s i < 256 := by
  unfold byt
  have := (s.data.toList.getD i 0).toNat_lt
  omega
/-- The first bytes are digits. -/
def digN (s : ByteArray) : Nat → Bool
  | 0 => true
  | k + 1 => digN s k && (decide (48 ≤ byt s k) && decide (byt s k ≤ 57))
/-- What they tell. -/
def numN (s : ByteArray) : Nat → Int
  | 0 => 0
  | k + 1 => 10 * numN s k + byt s k - 48
theorem numN_bd {s : ByteArray} {k : Nat} (h : digN s k = true) : 0 ≤ numN s k ∧ numN s k < 10 ^ k := by
  induction k with
  | zero => simp [numN]
  | succ k ih =>
    simp only [digN, Bool.and_eq_true, decide_eq_true_eq] at h
    have := ih h.1
    simp only [numN]
    have e : (10 : Int) ^ (k + 1) = 10 * 10 ^ k := by rw [Int.pow_succ, Int.mul_comm]
    omega
theorem digN_down {s : ByteArray} {k n : Nat} (h : digN s n = true) (hk : k ≤ n) : digN s k = true := by
  induction n with
  | zero => cases (show k = 0 by omega); exact h
  | succ n ih =>
    by_cases e : k = n + 1
    · subst e; exact h
    · simp only [digN, Bool.and_eq_true] at h; exact ih h.1 (by omega)
/-- The number that a word tells, if it tells one. -/
def tellsN (s : ByteArray) : Option Int := if s.size = 0 ∨ 9 < s.size ∨ (1 < s.size ∧ byt s 0 = 48) then none else if digN s s.size then some (numN s s.size) else none
theorem pow9 {k : Nat} (h : k ≤ 9) : (10 : Int) ^ k ≤ 1000000000 := by
  have : k = 0 ∨ k = 1 ∨ k = 2 ∨ k = 3 ∨ k = 4 ∨ k = 5 ∨ k = 6 ∨ k = 7 ∨ k = 8 ∨ k = 9 := by omega
  rcases this with rfl | rfl | rfl | rfl | rfl | rfl | rfl | rfl | rfl | rfl <;> decide

theorem byt_get {s : ByteArray} {k : Nat} (h : k < s.size) : ((s[k]'h).toNat : Int) = byt s k := by
  obtain ⟨⟨l⟩⟩ := s
  have hl : k < l.length := h
  unfold byt
  simp only [List.getD, List.getElem?_eq_getElem hl, Option.getD_some]
  rfl
theorem toList_nil {s : ByteArray} : s.toList = [] ↔ s.size = 0 := by
  rw [ByteArray.toList_eq, ← List.length_eq_zero_iff]
  exact Iff.rfl
/-- A word that is no number by its length or its first byte. -/
def noNum (s : ByteArray) : Prop := s.size = 0 ∨ 9 < s.size ∨ (1 < s.size ∧ byt s 0 = 48)
theorem tells_bad {s : ByteArray} (h : noNum s) : tellsN s = none := if_pos h
theorem tells_good {s : ByteArray} (h : ¬ noNum s) : tellsN s = if digN s s.size then some (numN s s.size) else none := if_neg h
theorem tells_all {s : ByteArray} (h : ¬ noNum s) (k : digN s s.size = true) : tellsN s = some (numN s s.size) := by rw [tells_good h, if_pos k]
theorem tells_stop {s : ByteArray} {k : Nat} (h : ¬ noNum s) (hk : k < s.size) (hb : byt s k < 48 ∨ 57 < byt s k) : tellsN s = none := by
  rw [tells_good h, if_neg]
  intro e
  have := digN_down (k := k + 1) e hk
  simp only [digN, Bool.and_eq_true, decide_eq_true_eq] at this
  omega
theorem good_one {s : ByteArray} (h3 : ¬ s.toList = []) (h9 : (s.size : Int) ≤ 9) (h1 : 1 < (s.size : Int)) (hi : 0 < s.size) (h0 : (s.toList.isEmpty = true ∨ 9 < (s.size : Int)) ∨ (((s[0]'hi).toNat : Int) == 48) = true) : noNum s := by
  rw [byt_get] at h0
  rcases h0 with (h | h) | h
  · exact absurd (by simpa using h) h3
  · omega
  · exact .inr (.inr ⟨by omega, by simpa using h⟩)
theorem good_two {s : ByteArray} (h3 : ¬ s.toList = []) (h9 : (s.size : Int) ≤ 9) (h0 : s.toList.isEmpty = true ∨ 9 < (s.size : Int)) : False := by
  rcases h0 with h | h
  · exact absurd (by simpa using h) h3
  · omega
theorem num_of {s : ByteArray} (hs : noNum s) (hi : 0 < s.size) (h9 : (s.size : Int) ≤ 9) (e : (((s[0]'hi).toNat : Int) == 48) = false) : False := by
  rw [byt_get] at e
  rcases hs with h | h | ⟨_, h⟩
  · omega
  · omega
  · simp [h] at e
theorem num_one {s : ByteArray} (hs : noNum s) (h3 : ¬ s.toList = []) (h1 : (s.size : Int) ≤ 1) : False := by
  rw [toList_nil] at h3
  unfold noNum at hs
  omega
/-- What lines.Number hands back. -/
def numR (o : Option Int) : Value := match o with | some n => .tuple #[.int .i64 n, .bool true] | none => .tuple #[.int .i64 0, .bool false]
theorem bad_zero {s : ByteArray} (h3 : ¬ s.toList = []) (hi : ¬ 0 < s.size) : False := h3 (toList_nil.2 (by omega))
theorem bad_long {s : ByteArray} (hs : noNum s) (h0 : (s.toList.isEmpty = false ∧ (s.size : Int) ≤ 9) ∧ (s.size : Int) ≤ 1) : False := by
  refine num_one hs ?_ h0.2
  intro h
  simp [h] at h0
theorem bad_first {s : ByteArray} (hs : noNum s) (hi : 0 < s.size) (h9 : (s.size : Int) ≤ 9) (e : ¬ ((s[0]'hi).toNat : Int) = 48) : False := num_of hs hi h9 (by simpa using e)
theorem good_first {s : ByteArray} (h3 : ¬ s.toList = []) (h9 : (s.size : Int) ≤ 9) (hi : 0 < s.size) (e : ((s[0]'hi).toNat : Int) = 48) (h0 : (s.toList.isEmpty = true ∨ 9 < (s.size : Int)) ∨ 1 < (s.size : Int)) : noNum s := by
  rw [byt_get] at e
  rcases h0 with h | h
  · exact (good_two h3 h9 h).elim
  · exact .inr (.inr ⟨by omega, e⟩)

set_option maxHeartbeats 1000000 in
theorem number_any (s : ByteArray) (w : World) :
    Calls Tryz.prog 72 #[.string s] w fun e w' => e = .returned (numR (tellsN s)) ∧ w' = w := by
  by_cases hs : noNum s
  · rw [tells_bad hs]
    have HS := hide hs
    clear hs
    go_enter Tryz.func72, Tryz.ntmps72
    go_wp2
    all_goals try exact (bad_zero (s := s) ‹_› ‹_›).elim
    all_goals try exact (bad_long HS.out ‹_›).elim
    all_goals try exact (bad_first HS.out ‹_› ‹_› ‹_›).elim
    all_goals go_ret2
    all_goals exact ⟨rfl, rfl⟩
  · have HA := hide (tells_all hs)
    have HN := hide (fun k => @tells_stop s k hs)
    have hz : s.size ≠ 0 ∧ s.size ≤ 9 := by unfold noNum at hs; omega
    have hi : 0 < s.size := by omega
    have h2 : s.size ≤ 9 := hz.2
    have h3 : ¬ s.toList = [] := by rw [toList_nil]; omega
    have HS := hide hs
    clear hs hz
    generalize tellsN s = T at *
    go_enter Tryz.func72, Tryz.ntmps72
    go_wp2
    all_goals try exact (HS.out (good_first ‹_› ‹_› ‹_› ‹_› ‹_›)).elim
    all_goals try exact (good_two (s := s) ‹_› ‹_› ‹_›).elim
    all_goals
      go_loop [4, 5, 6, 26] (fun o _ _ i => ∃ k : Nat, k ≤ s.size ∧ i = .int .i64 k ∧ o = .int .i64 (numN s k) ∧ digN s k = true) (fun _ _ _ i => s.size - (intOf i).toNat)
      case atStart => exact ⟨0, Nat.zero_le _, rfl, rfl, rfl⟩
      case round =>
        obtain ⟨k, hk, rfl, rfl, hd⟩ := hrel
        by_cases hlt : k < s.size
        · have hb := numN_bd hd
          have hp := pow9 (k := k) (by omega)
          have hbb := byt_bd s k
          have hg := byt_get hlt
          have HK := hide (HN.out k hlt)
          have HD := hide hd
          clear hd
          by_cases c1 : byt s k < 48
          · go_wp2
            go_ret2
            exact ⟨by rw [HK.out (.inl c1)]; rfl, rfl⟩
          by_cases c2 : 57 < byt s k
          · go_wp2
            go_ret2
            exact ⟨by rw [HK.out (.inr c2)]; rfl, rfl⟩
          go_wp2
          go_round
          case rel => exact ⟨k + 1, by omega, by go_num, by simp [numN]; omega, by simp [digN, HD.out]; omega⟩
          case measure => simp [intOf]; omega
        · obtain rfl : k = s.size := by omega
          go_wp2
          go_ret2
          exact ⟨by rw [HA.out hd]; rfl, rfl⟩
end Go.Proofs.YtfobcnhibhbbaaaGreatDoor

namespace Go.Proofs.YtfobcnhibhbbaaaGreatDoor
open Go.RowKit
set_option maxRecDepth 100000

theorem size39 : (Tryz.prog.info? 69).map (·.size) = some 2 := by kernel_rfl
theorem lies39 : liesAt Tryz.prog Tryz.prog.depth 71 (2 / Tryz.prog.cellsOf 71) 0 69 1 = true := by kernel_rfl
theorem info5 : (Tryz.prog.info? 5).map (fun i => (i.zero, i.size, i.bytes)) = some (some (.int .u8 0), 1, 1) := by kernel_rfl

set_option maxHeartbeats 1000000 in
set_option maxRecDepth 100000 in
theorem check_used (b : Nat) (w : World) (h0 : w.cell? ⟨b, 0, none⟩ = some (.pointer (some ⟨b, 0, none⟩))) :
    Calls Tryz.prog 84 #[.pointer (some ⟨b, 0, none⟩)] w fun e w' => e = .returned (.tuple #[]) ∧ w' = w := by
  obtain ⟨j, hj, _⟩ := Option.map_eq_some_iff.1 size39
  go_enter Tryz.func84, Tryz.ntmps84
  go_wp2
  rw [Lib.run_neq_ptr_same w _ Tryz.underlying66 hj]
  go_wp2
  go_end0
  exact ⟨rfl, rfl⟩

set_option maxHeartbeats 1000000 in
set_option maxRecDepth 100000 in
theorem check_fresh (b : Nat) (w : World) (h0 : w.cell? ⟨b, 0, none⟩ = some (.pointer none)) (hsh : w.shape? b = some (71, 2)) (hfz : w.frozen? ⟨b, 0, none⟩ = false) :
    Calls Tryz.prog 84 #[.pointer (some ⟨b, 0, none⟩)] w fun e w' => e = .returned (.tuple #[]) ∧ w' = w.setCell ⟨b, 0, none⟩ (.pointer (some ⟨b, 0, none⟩)) := by
  obtain ⟨j, hj, hjs⟩ := Option.map_eq_some_iff.1 size39
  go_enter Tryz.func84, Tryz.ntmps84
  go_wp2
  rw [Lib.run_to_unsafe w ⟨b, 0, none⟩ Tryz.underlying66 Tryz.underlying156 hj (by rw [hjs]; decide) hsh (Nat.zero_lt_succ 1)]
  simp only [Result.andThen]
  rw [Oper.upon_value]
  go_wp2
  rw [run_callFunc_extern Tryz.func96 (by kernel_rfl) (by kernel_rfl) (by kernel_rfl) (e := Extern.AbiNoEscape.same) (by kernel_rfl)]
  rw [Lib.run_noEscape]
  simp only [Result.andThen]
  rw [Oper.upon_value]
  go_wp2
  rw [Lib.run_from_unsafe w ⟨b, 0, none⟩ Tryz.underlying156 Tryz.underlying66 hj hsh lies39]
  simp only [Result.andThen]
  rw [Oper.upon_value]
  go_wp2
  go_end0
  exact ⟨rfl, rfl⟩

theorem own_kind {w : World} {B : Nat} {e : TypeId} {v : Value} {n : Nat} {xs : List Value} (h : w.ownsRow B e 1 v n xs) : ∀ g, v.ownBlock = some g → ∃ c fz, w.heap[g]? = some (.cells c e fz) := by
  intro g hg
  rcases h.2 with ⟨rfl, _⟩ | ⟨g', cap, cur, rfl, _, hgg, _⟩
  · simp [Value.ownBlock] at hg
  · simp [Value.ownBlock] at hg
    subst hg
    exact ⟨cur, _, hgg⟩

theorem copyCheck_any (B b : Nat) (bs : List Value) (w : World) (h : Lib.IsBuilder 71 5 B b bs w) :
    Calls Tryz.prog 84 #[.pointer (some ⟨b, 0, none⟩)] w fun e w' => e = .returned (.tuple #[]) ∧ (Lib.BuilderAt 71 5 B b (.pointer (some ⟨b, 0, none⟩)) bs w' ∧ Below B w w' ∧ Lib.OthersKept 5 (some b) w w') := by
  rcases h with h | h
  · refine (check_fresh b w h.cell0 h.shape h.frozen0).mono ?_
    rintro e w' ⟨rfl, rfl⟩
    exact ⟨rfl, h.used _, (Below.refl B w).setCell (p := ⟨b, 0, none⟩) h.1 _, (Lib.OthersKept.refl 5 (some b) w).setCell ⟨b, 0, none⟩ rfl _⟩
  · refine (check_used b w h.cell0).mono ?_
    rintro e w' ⟨rfl, rfl⟩
    exact ⟨rfl, h, Below.refl B _, Lib.OthersKept.refl _ _ _⟩

set_option maxHeartbeats 2000000 in
set_option maxRecDepth 100000 in
theorem writeString_any (B b : Nat) (bs : List Value) (s : ByteArray) (w : World) (h : Lib.IsBuilder 71 5 B b bs w) (hlen : bs.length + s.size ≤ 140737488355328) (hBw : B ≤ w.heap.size) :
    Calls Tryz.prog 69 #[.pointer (some ⟨b, 0, none⟩), .string s] w fun e w' => e = .returned (.tuple #[.int .i64 s.size, .nilIface]) ∧ (Lib.BuilderAt 71 5 B b (.pointer (some ⟨b, 0, none⟩)) (bs ++ Lib.strCells s) w' ∧ Below B w w' ∧ Lib.OthersKept 5 (some b) w w') := by
  obtain ⟨i0, hi, hz0, hz1, hz2⟩ := info_parts info5
  go_enter Tryz.func69, Tryz.ntmps69
  go_wp2_with fail
  refine (copyCheck_any B b bs _ h).mono ?_
  rintro e w1 ⟨rfl, ⟨hB, v, hbk, hown, hne⟩, hb1, hk1⟩
  have hsz := hb1.size
  have c0 : w1.cell? ⟨b, 0, none⟩ = some (.pointer (some ⟨b, 0, none⟩)) := by rw [Lib.cell_of_heap hbk]; rfl
  have c1 : w1.cell? ⟨b, 1, none⟩ = some v := by rw [Lib.cell_of_heap hbk]; rfl
  go_wp2_with (at_builtin; refine Lib.wpList_append_own_string _ rfl _ _ 67 9 rfl B 5 i0 Tryz.underlying67 Tryz.underlying9 hi hz0 hz1 hz2 _ _ _ rfl hown s rfl (by unfold maxLen; omega) (by omega) (by omega) ?_)
  intro v' w2 hown' hgrow _
  have hlt : b < w1.heap.size := Lib.BuilderAt.lt ⟨hB, v, hbk, hown, hne⟩
  have hb2 : w2.heap[b]? = some (.cells #[.pointer (some ⟨b, 0, none⟩), v] 71 (0, 0)) := by
    rw [hgrow.block b hlt (fun e => hne e.symm)]
    exact hbk
  have d0 : w2.cell? ⟨b, 0, none⟩ = some (.pointer (some ⟨b, 0, none⟩)) := by rw [Lib.cell_of_heap hb2]; rfl
  have d1 : w2.cell? ⟨b, 1, none⟩ = some v := by rw [Lib.cell_of_heap hb2]; rfl
  have f1 : w2.frozen? ⟨b, 1, none⟩ = false := Lib.frozen_of_heap hb2 1
  obtain ⟨ao, n', cap, rfl⟩ : ∃ ao n' cap, v' = .slice ao n' cap := by
    rcases hown'.2 with ⟨hv, _⟩ | ⟨g, cap, cur, hv, _⟩
    · exact ⟨_, _, _, hv⟩
    · exact ⟨_, _, _, hv⟩
  go_wp2
  go_ret2
  refine ⟨rfl, ?_, ?_, (hk1.grown hgrow (own_kind hown)).setCell ⟨b, 1, none⟩ rfl _⟩
  · exact Lib.BuilderAt.put (T := 71) (e := 5) hB hb2 (bs' := bs ++ Lib.strCells s) (by simpa [Lib.strCells_length] using hown') (by decide)
  · exact (hb1.grown hgrow (by omega) (fun k hk => (hown.lt k hk).1)).setCell (p := ⟨b, 1, none⟩) hB _

theorem cells5 : Tryz.prog.cellsOf 5 = 1 := by kernel_rfl

set_option maxHeartbeats 1000000 in
set_option maxRecDepth 100000 in
theorem string_any (B b : Nat) (l : List UInt8) (w : World) (h : Lib.IsBuilder 71 5 B b (Lib.byteCells l) w) (h0 : l ≠ []) :
    Calls Tryz.prog 23 #[.pointer (some ⟨b, 0, none⟩)] w fun e w' => e = .returned (.string ⟨l.toArray⟩) ∧ Below B w w' := by
  obtain ⟨p, hB, v, hbk, hown, hne⟩ : ∃ p, Lib.BuilderAt 71 5 B b p (Lib.byteCells l) w := by
    rcases h with h | h
    · exact ⟨_, h⟩
    · exact ⟨_, h⟩
  have hl0 : l.length ≠ 0 := by simpa using h0
  rw [Lib.byteCells_length] at hown
  obtain ⟨g, cap, cur, rfl, hbg, hg, hnc, hcm, hcs, htake⟩ : ∃ g cap cur, v = .slice (some ⟨g, 0, none⟩) l.length cap ∧ B ≤ g ∧ w.heap[g]? = some (.cells cur 5 (0, 0)) ∧ l.length ≤ cap ∧ cap ≤ maxLen ∧ cur.size = cap * 1 ∧ cur.toList.take (l.length * 1) = Lib.byteCells l := by
    rcases hown.2 with ⟨_, hz⟩ | ⟨g, cap, cur, hv, r⟩
    · exact absurd hz hl0
    · exact ⟨g, cap, cur, hv, r⟩
  have c1 : w.drew.cell? ⟨b, 1, none⟩ = some (.slice (some ⟨g, 0, none⟩) l.length cap) := by
    have : w.drew.heap[b]? = some (.cells #[p, .slice (some ⟨g, 0, none⟩) l.length cap] 71 (0, 0)) := hbk
    rw [Lib.cell_of_heap this]; rfl
  have hSD : (Builtin.unsafeSliceData_ #[67] 97 #[.slice (some ⟨g, 0, none⟩) l.length cap]).run Tryz.prog w.drew = .ok (.pointer (some ⟨g, 0, none⟩)) w.drew :=
    Lib.run_unsafeSliceData_row _ _ _ _ _ _ (by omega)
  have hUS : (Builtin.unsafeString_ #[97, 3] 9 #[.pointer (some ⟨g, 0, none⟩), .int .i64 l.length]).run Tryz.prog w.drew = .ok (.string ⟨l.toArray⟩) (w.drew.freeze ⟨g, 0, none⟩ l.length) := by
    refine Lib.run_unsafeString_row w.drew 97 3 9 5 Tryz.underlying97 cells5 g cur.size (by have hg' : w.drew.heap[g]? = some (.cells cur 5 (0, 0)) := hg; simp [World.shape?, hg']) l h0 (by omega) (by unfold maxLen at hcm; omega) ?_
    intro j x hx
    exact hown.cells (g := g) rfl j (.int .u8 x.toNat) (by simp [Lib.byteCells, hx])
  have mixed : Tryz.prog.follows Departure.mixedOrders = true := by kernel_rfl
  go_enter Tryz.func23, Tryz.ntmps23
  go_wp2
  go_region_o
  all_goals (go_wp2; go_ret; exact ⟨rfl, Lib.below_freeze (Below.drew (Below.refl B w)) (p := ⟨g, 0, none⟩) hbg _⟩)
end Go.Proofs.YtfobcnhibhbbaaaGreatDoor

namespace Go.Proofs.YtfobcnhibhbbaaaGreatDoor
open Go.RowKit
set_option maxRecDepth 100000

/-- A row of strings, in one block of strings. -/
def StrsAt (w : World) (p : Option Addr) (l : List ByteArray) : Prop := 0 < l.length → ∃ b off c fz, p = some ⟨b, off, none⟩ ∧ w.heap[b]? = some (.cells c 9 fz) ∧ ∀ i (hi : i < l.length), c[off + i]? = some (.string l[i])
theorem StrsAt.cell {w : World} {p : Option Addr} {l : List ByteArray} (h : StrsAt w p l) (h0 : 0 < l.length) : ∃ b off, p = some ⟨b, off, none⟩ ∧ ∀ i (hi : i < l.length), w.cell? ⟨b, off + i, none⟩ = some (.string l[i]) := by
  obtain ⟨b, off, c, fz, h1, h2, h3⟩ := h h0
  refine ⟨b, off, h1, fun i hi => ?_⟩
  rw [Lib.cell_of_heap h2]
  exact h3 i hi
theorem StrsAt.kept {w w' : World} {p : Option Addr} {l : List ByteArray} {b : Nat} (h : StrsAt w p l) (hb : ∀ c fz, w.heap[b]? ≠ some (.cells c 9 fz)) (hk : Lib.OthersKept 5 (some b) w w') : StrsAt w' p l := fun h0 => by
  obtain ⟨g, off, c, fz, h1, h2, h3⟩ := h h0
  refine ⟨g, off, c, fz, h1, hk g _ h2 ?_ ?_, h3⟩
  · rintro e
    cases e
    exact hb _ _ h2
  · rintro c' fz' e
    cases e

/-- The bytes of the first words, with a blank between them. -/
def lineN (ws : List ByteArray) : Nat → List UInt8
  | 0 => []
  | k + 1 => (lineN ws k ++ if k = 0 then [] else [32]) ++ match ws[k]? with | some x => x.data.toList | none => []
theorem lineN_succ {ws : List ByteArray} {k : Nat} (h : k < ws.length) : lineN ws (k + 1) = (lineN ws k ++ if k = 0 then [] else [32]) ++ ws[k].data.toList := by
  simp [lineN, List.getElem?_eq_getElem h]
theorem lineN_mono {ws : List ByteArray} {k n : Nat} (h : k ≤ n) : (lineN ws k).length ≤ (lineN ws n).length := by
  induction n with
  | zero => cases (show k = 0 by omega); exact Nat.le_refl _
  | succ n ih =>
    by_cases e : k = n + 1
    · subst e; exact Nat.le_refl _
    · have := ih (by omega)
      simp only [lineN, List.length_append]
      omega
theorem cells_app (a : List UInt8) (s : ByteArray) : Lib.byteCells a ++ Lib.strCells s = Lib.byteCells (a ++ s.data.toList) := by simp [Lib.byteCells, Lib.strCells]

theorem write_any (B b : Nat) (l : List UInt8) (s : ByteArray) (w : World) (h : Lib.IsBuilder 71 5 B b (Lib.byteCells l) w) (hlen : l.length + s.data.toList.length ≤ 140737488355328) (hBw : B ≤ w.heap.size) :
    Calls Tryz.prog 69 #[.pointer (some ⟨b, 0, none⟩), .string s] w fun e w' => e = .returned (.tuple #[.int .i64 s.size, .nilIface]) ∧ (Lib.IsBuilder 71 5 B b (Lib.byteCells (l ++ s.data.toList)) w' ∧ Below B w w' ∧ Lib.OthersKept 5 (some b) w w') := by
  refine (writeString_any B b (Lib.byteCells l) s w h (by rw [Lib.byteCells_length]; exact hlen) hBw).mono ?_
  rintro e w' ⟨rfl, h1, h2, h3⟩
  rw [cells_app] at h1
  exact ⟨rfl, .inr h1, h2, h3⟩
theorem builder_not {T e : TypeId} {B b : Nat} {bs : List Value} {w : World} (h : Lib.IsBuilder T e B b bs w) (x : TypeId) (hx : T ≠ x) : ∀ c fz, w.heap[b]? ≠ some (.cells c x fz) := by
  intro c fz e
  rcases h with ⟨_, v, hb, _⟩ | ⟨_, v, hb, _⟩ <;>
  · rw [hb] at e
    cases e
    exact hx rfl

set_option maxHeartbeats 2000000 in
set_option maxRecDepth 100000 in
theorem line_any (B b : Nat) (l : List UInt8) (p : Option Addr) (cap : Nat) (ws : List ByteArray) (w : World) (h : Lib.IsBuilder 71 5 B b (Lib.byteCells l) w) (hw : StrsAt w p ws) (hlen : l.length + (lineN ws ws.length).length + 1 ≤ 140737488355328) (hws : ws.length ≤ 1000000) (hBw : B ≤ w.heap.size) :
    Calls Tryz.prog 44 #[.pointer (some ⟨b, 0, none⟩), .slice p ws.length cap] w fun e w' => e = .returned (.tuple #[]) ∧ (Lib.IsBuilder 71 5 B b (Lib.byteCells (l ++ lineN ws ws.length ++ [10])) w' ∧ Below B w w' ∧ Lib.OthersKept 5 (some b) w w') := by
  have HW := hide (fun (w' : World) (hk : Lib.OthersKept 5 (some b) w w') => hw.kept (builder_not h 9 (by decide)) hk)
  have HL := hide hlen
  have HM := hide (fun k (hk : k ≤ ws.length) => lineN_mono (ws := ws) hk)
  have H := hide h
  clear h hw hlen
  go_enter Tryz.func44, Tryz.ntmps44
  go_wp2
  go_loopw [4, 5, 8] (fun _ _ c wr => ∃ k : Nat, k ≤ ws.length ∧ c = .int .i64 k ∧ Hid (Lib.IsBuilder 71 5 B b (Lib.byteCells (l ++ lineN ws k)) wr ∧ Below B w wr ∧ Lib.OthersKept 5 (some b) w wr)) (fun _ _ c _ => ws.length - (intOf c).toNat)
  case atStart => exact ⟨0, Nat.zero_le _, rfl, by simpa [lineN] using H.out, Below.refl _ _, Lib.OthersKept.refl _ _ _⟩
  case round =>
    clear H
    obtain ⟨k, hk, rfl, HI⟩ := hrel
    by_cases hlt : k < ws.length
    · obtain ⟨g, off, rfl, hc⟩ := (HW.out _ HI.out.2.2).cell (by omega)
      have hck := hc k hlt
      clear hc
      have HS := hide (lineN_succ hlt)
      have hm := HM.out (k + 1) hlt
      rw [HS.out] at hm
      generalize ws[k] = x at *
      simp only [List.length_append] at hm
      have hl := HL.out
      have HX := hide (show l.length + (lineN ws k).length + (if k = 0 then [] else [32] : List UInt8).length + x.data.toList.length ≤ 140737488355328 by omega)
      clear hm hl HM
      by_cases hz : k = 0
      · subst hz
        rw [Nat.add_zero] at hck
        go_wp2_with fail
        refine (write_any B b _ _ _ HI.out.1 (by have := HX.out; simp at this; simp; omega) (by have := HI.out.2.1.size; omega)).mono ?_
        rintro e w2 ⟨rfl, h1, h2, h3⟩
        have HN := hide (show Lib.IsBuilder 71 5 B b (Lib.byteCells (l ++ lineN ws (0 + 1))) w2 ∧ Below B w w2 ∧ Lib.OthersKept 5 (some b) w w2 from ⟨by rw [HS.out]; simpa using h1, HI.out.2.1.trans h2, HI.out.2.2.trans h3⟩)
        clear h1 h2 h3 HI HS HX
        go_wp2
        go_roundw
        case rel => exact ⟨1, by omega, by go_num, HN⟩
        case measure => simp [intOf]; omega
      · have hz' : 0 < (k : Int) := by omega
        have HZ := hide hz
        go_wp2_with fail
        refine (write_any B b _ _ _ HI.out.1 (by have := HX.out; simp [HZ.out] at this; simp; omega) (by have := HI.out.2.1.size; omega)).mono ?_
        rintro e w2 ⟨rfl, h1, h2, h3⟩
        have H1 := hide h1
        have H2 := hide (HI.out.2.1.trans h2)
        have H3 := hide (HI.out.2.2.trans h3)
        clear h1 h2 h3 HI
        go_wp2_with fail
        refine (write_any B b _ _ _ H1.out (by have := HX.out; simp [HZ.out] at this; simp; omega) (by have := H2.out.size; omega)).mono ?_
        rintro e w3 ⟨rfl, h1, h2, h3⟩
        have HN := hide (show Lib.IsBuilder 71 5 B b (Lib.byteCells (l ++ lineN ws (k + 1))) w3 ∧ Below B w w3 ∧ Lib.OthersKept 5 (some b) w w3 from ⟨by rw [HS.out]; simpa [HZ.out] using h1, H2.out.trans h2, H3.out.trans h3⟩)
        clear h1 h2 h3 H1 H2 H3 HS HX
        go_wp2
        go_roundw
        case rel => exact ⟨k + 1, by omega, by go_num, HN⟩
        case measure => simp [intOf]; omega
    · obtain rfl : k = ws.length := by omega
      go_wp2_with fail
      refine (write_any B b _ _ _ HI.out.1 (by simp; have := HL.out; omega) (by have := HI.out.2.1.size; omega)).mono ?_
      rintro e w2 ⟨rfl, h1, h2, h3⟩
      go_wp2
      go_end0
      exact ⟨rfl, h1, HI.out.2.1.trans h2, HI.out.2.2.trans h3⟩
end Go.Proofs.YtfobcnhibhbbaaaGreatDoor
