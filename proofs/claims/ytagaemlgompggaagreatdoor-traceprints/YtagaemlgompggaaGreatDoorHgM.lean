/- The plain text's line. -/
import Derived.Test.YtagaemlgompggaaGreatDoorHeM
namespace Go.Proofs.YtagaemlgompggaaGreatDoor
open Go.RowKit
set_option maxRecDepth 100000

/-- A line so far, as the plain text writes it. -/
def wordN (s : ByteArray) (ns : List Int) : Nat → ByteArray
  | 0 => s
  | k + 1 => wordN s ns k ++ (⟨#[32]⟩ ++ match ns[k]? with | some n => itoaB n | none => ⟨#[]⟩)
theorem wordN_succ {s : ByteArray} {ns : List Int} {k : Nat} (h : k < ns.length) : wordN s ns (k + 1) = wordN s ns k ++ (⟨#[32]⟩ ++ itoaB ns[k]) := by
  simp [wordN, List.getElem?_eq_getElem h]
theorem wordN_size {s : ByteArray} {ns : List Int} (hb : ∀ n ∈ ns, -9223372036854775808 ≤ n ∧ n ≤ 9223372036854775807) (k : Nat) (hk : k ≤ ns.length) : (wordN s ns k).size ≤ s.size + 22 * k := by
  induction k with
  | zero => simp [wordN]
  | succ k ih =>
    have := ih (by omega)
    have h2 := hb ns[k] (List.getElem_mem hk)
    have := itoaB_size h2.1 h2.2
    rw [wordN_succ hk, ByteArray.size_append, ByteArray.size_append]
    have e : (ByteArray.mk #[32]).size = 1 := rfl
    omega

set_option maxHeartbeats 1000000 in
set_option maxRecDepth 100000 in
theorem pline_any (s : ByteArray) (p : Option Addr) (cap : Nat) (ns : List Int) (w : World) (hs : s.size ≤ 100) (hI : IntsAt w p ns) (hns : ns.length ≤ 70368744177664) (hbd : ∀ n ∈ ns, -9223372036854775808 ≤ n ∧ n ≤ 9223372036854775807) :
    Calls Tryz.prog 15 #[.string s, .slice p ns.length cap] w fun e w' => e = .returned (.string (wordN s ns ns.length ++ ⟨#[10]⟩)) ∧ Below w.heap.size w w' := by
  have HI := hide hI
  have HB := hide hbd
  have HZ := hide (wordN_size (s := s) hbd)
  clear hI hbd
  go_enter Tryz.func15, Tryz.ntmps15
  go_wp2
  go_loopw [0, 5] (fun v c wr => ∃ k : Nat, k ≤ ns.length ∧ c = .int .i64 k ∧ v = .string (wordN s ns k) ∧ Hid (Below w.heap.size w wr)) (fun _ c _ => ns.length - (intOf c).toNat)
  case atStart => exact ⟨0, Nat.zero_le _, rfl, rfl, Below.refl _ _⟩
  case round =>
    obtain ⟨k, hk, rfl, rfl, HR⟩ := hrel
    by_cases hlt : k < ns.length
    · obtain ⟨g, off, rfl, hc⟩ := (HI.out.later HR.out) (by omega)
      have hck := hc k hlt
      clear hc
      have HS := hide (wordN_succ (s := s) hlt)
      have hX := HB.out ns[k] (List.getElem_mem hlt)
      have hz := HZ.out k hk
      generalize ns[k] = n at *
      have s1 := itoaB_size hX.1 hX.2
      have s2 : (ByteArray.mk #[32] ++ itoaB n).size ≤ 22 := by
        rw [ByteArray.size_append]
        have e : (ByteArray.mk #[32]).size = 1 := rfl
        omega
      generalize wordN s ns k = W at *
      go_wp2_with fail
      refine (digits_any n hX.1 hX.2 _).mono ?_
      rintro e w2 ⟨rfl, hb2⟩
      have HR2 := hide (HR.out.trans (hb2.mono HR.out.size))
      clear hb2 HR
      go_wp2
      go_roundw
      case rel => exact ⟨k + 1, by omega, by go_num, by rw [HS.out], HR2⟩
      case measure => simp [intOf]; omega
    · obtain rfl : k = ns.length := by omega
      have hz := HZ.out ns.length (Nat.le_refl _)
      go_wp2
      go_ret
      exact ⟨rfl, HR.out⟩
end Go.Proofs.YtagaemlgompggaaGreatDoor

namespace Go.Proofs.YtagaemlgompggaaGreatDoor
open Go.RowKit
set_option maxRecDepth 100000

theorem wordN_line (s : ByteArray) (ns : List Int) (k : Nat) (hk : k ≤ ns.length) : (wordN s ns k).data.toList = lineN (s :: ns.map itoaB) (k + 1) := by
  induction k with
  | zero => simp [wordN, lineN]
  | succ k ih =>
    have h2 : k + 1 < (s :: ns.map itoaB).length := by simp; omega
    rw [wordN_succ (show k < ns.length by omega), lineN_succ h2, ← ih (by omega)]
    simp

/-- The first line, its words, the text behind it, whether it is ended. -/
def lineOf (s : ByteArray) : ByteArray := ⟨(Lib.cut s.data.toList [10]).1.toArray⟩
def restOf (s : ByteArray) : ByteArray := ⟨(Lib.cut s.data.toList [10]).2.1.toArray⟩
def endsOf (s : ByteArray) : Bool := (Lib.cut s.data.toList [10]).2.2
def wordsOf (s : ByteArray) : List ByteArray := Lib.splitB ⟨#[32]⟩ 0 (Lib.countB s ⟨#[32]⟩) s
theorem wordsOf_len (s : ByteArray) : (wordsOf s).length = Lib.countB s ⟨#[32]⟩ + 1 := Lib.splitB_all ⟨#[32]⟩ (by decide) 0 _ s rfl
theorem lineOf_size (s : ByteArray) : (lineOf s).size ≤ s.size := by
  show (Lib.cut s.data.toList [10]).1.toArray.size ≤ s.data.size
  rw [List.size_toArray, ← Array.length_toList]
  unfold Lib.cut
  split
  · simp [List.length_take]; omega
  · exact Nat.le_refl _
theorem strs_new (w : World) (l : List ByteArray) : StrsAt (w.alloc (.cells (l.map Value.string).toArray 9)) (some ⟨w.heap.size, 0, none⟩) l := fun _ => ⟨w.heap.size, 0, _, _, rfl, heap_alloc_new w _, fun i hi => by simp [List.getElem?_eq_getElem hi]⟩

set_option maxHeartbeats 1000000 in
set_option maxRecDepth 100000 in
theorem next_any (s : ByteArray) (hs : s.size < 4294967281) (m : Int) (w : World) (hm : w.cell? ⟨1, 0, none⟩ = some (.int .i64 m)) :
    Calls Tryz.prog 35 #[.string s] w fun e w' => ∃ p, e = .returned (.tuple #[.slice p (wordsOf (lineOf s)).length (wordsOf (lineOf s)).length, .string (restOf s), .bool (endsOf s)]) ∧ StrsAt w' p (wordsOf (lineOf s)) ∧ Below w.heap.size w w' := by
  have HM := hide hm
  clear hm
  go_enter Tryz.func35, Tryz.ntmps35
  go_wp2_with fail
  refine (Tryz.strings_Cut s ⟨#[10]⟩ m _ hs HM.out).mono ?_
  rintro e w1 ⟨rfl, n, rfl⟩
  rw [show (⟨(Lib.cut s.data.toList (ByteArray.mk #[10]).data.toList).1.toArray⟩ : ByteArray) = lineOf s from rfl, show (⟨(Lib.cut s.data.toList (ByteArray.mk #[10]).data.toList).2.1.toArray⟩ : ByteArray) = restOf s from rfl, show (Lib.cut s.data.toList (ByteArray.mk #[10]).data.toList).2.2 = endsOf s from rfl]
  have hl := lineOf_size s
  go_wp2_with fail
  refine (Tryz.strings_Split (lineOf s) ⟨#[32]⟩ m (w.drewN n) (by omega) HM.out (by decide)).mono ?_
  rintro e w2 ⟨rfl, rfl⟩
  have e2 := wordsOf_len (lineOf s)
  have h3 := strs_new (w.drewN n) (wordsOf (lineOf s))
  rw [← e2]
  rw [show Lib.splitB ⟨#[32]⟩ 0 (Lib.countB (lineOf s) ⟨#[32]⟩) (lineOf s) = wordsOf (lineOf s) from rfl]
  have HB := hide (show Below w.heap.size w ((w.drewN n).alloc (.cells ((wordsOf (lineOf s)).map Value.string).toArray 9)) from Below.alloc (show Below w.heap.size w (w.drewN n) from ⟨rfl, rfl, rfl, Nat.le_refl _, fun _ _ => rfl⟩) (Nat.le_refl _) _)
  have H3 := hide h3
  clear h3 e2
  generalize (w.drewN n).alloc (.cells ((wordsOf (lineOf s)).map Value.string).toArray 9) = w3 at *
  go_wp2
  go_ret3
  exact ⟨_, rfl, H3.out, HB.out⟩
end Go.Proofs.YtagaemlgompggaaGreatDoor
