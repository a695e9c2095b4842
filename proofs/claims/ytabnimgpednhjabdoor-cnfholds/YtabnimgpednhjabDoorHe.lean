/- The plain text's digits. -/
import Derived.Test.YtabnimgpednhjabDoorHd
import Derived.Laws.IdiomStrings
import Derived.Lib.ItoaLen
namespace Go.Proofs.YtabnimgpednhjabDoor
open Go.RowKit
set_option maxRecDepth 100000
set_option maxRecDepth 100000

def decB (u : Nat) : ByteArray := ⟨(Lib.decDigits u).toArray⟩
theorem conv_one (u : Nat) (h : u < 10) (w : World) : (convert 41 9 (.slice (some ⟨w.heap.size, 0, none⟩) 1 1)).run Tryd.prog (w.alloc (.cells #[.int .u8 (48 + (u : Int))] 5)) = .ok (.string (decB u)) (w.alloc (.cells #[.int .u8 (48 + (u : Int))] 5)) := by
  have := run_convert_bytes_back (P := Tryd.prog) (w.alloc (.cells #[.int .u8 (48 + (u : Int))] 5)) 41 9 5 ⟨w.heap.size, 0, none⟩ 1 [UInt8.ofNat (48 + u)] Tryd.underlying41 Tryd.underlying5 Tryd.underlying9 (by
    intro j hj
    match j, hj with
    | 0, _ =>
      have e : (48 + u) % 256 = 48 + u := by omega
      simp [Addr.add, e])
  unfold decB
  rw [Lib.decDigits_one h]
  exact this

set_option maxHeartbeats 1000000 in
set_option maxRecDepth 100000 in
theorem digits_small (u : Nat) (h : u < 10) (w : World) :
    Calls Tryd.prog 22 #[.int .i64 u] w fun e w' => e = .returned (.string (decB u)) ∧ Below w.heap.size w w' := by
  go_enter Tryd.func22, Tryd.ntmps22
  go_wp2
  rw [conv_one u h w]
  simp only [Result.andThen]
  rw [Oper.upon_value]
  go_wp2
  go_ret
  exact ⟨rfl, (Below.refl _ _).alloc (Nat.le_refl _) _⟩

theorem decB_big {u : Nat} (h : ¬ u < 10) : decB u = decB (u / 10) ++ decB (u % 10) := by
  unfold decB
  rw [Lib.decDigits, dif_neg h, Lib.decDigits_one (i := u % 10) (by omega)]
  simp [ByteArray.ext_iff]
theorem decB_size {u : Nat} (h : u ≤ 9223372036854775808) : (decB u).size ≤ 20 := by
  have e : (decB u).size = (Lib.decDigits u).length := rfl
  rw [e, Lib.decDigits_length]
  exact Lib.nDigits_le20 u (by omega)

set_option maxHeartbeats 1000000 in
set_option maxRecDepth 100000 in
theorem digits_nat (u : Nat) (h : u ≤ 9223372036854775807) (w : World) :
    Calls Tryd.prog 22 #[.int .i64 u] w fun e w' => e = .returned (.string (decB u)) ∧ Below w.heap.size w w' := by
  induction u using Nat.strongRecOn generalizing w with
  | _ u ih =>
    by_cases hs : u < 10
    · exact digits_small u hs w
    have HA := hide (ih (u / 10) (by omega) (by omega))
    have HB := hide (fun w => digits_small (u % 10) (by omega) w)
    have hu : (10 : Int) ≤ u := by omega
    have HD := hide (decB_big hs)
    have s1 := decB_size (u := u / 10) (by omega)
    have s2 := decB_size (u := u % 10) (by omega)
    clear ih
    go_enter Tryd.func22, Tryd.ntmps22
    go_wp2_with fail
    refine (HA.out _).mono ?_
    rintro e w1 ⟨rfl, hb1⟩
    have HB1 := hide hb1
    clear hb1
    go_wp2_with fail
    refine (HB.out _).mono ?_
    rintro e w2 ⟨rfl, hb2⟩
    have HB2 := hide hb2
    clear hb2
    go_wp2
    go_ret
    exact ⟨by rw [HD.out]; rfl, HB1.out.trans (HB2.out.mono HB1.out.size)⟩

theorem itoaB_pos (u : Nat) : itoaB (u : Int) = decB u := by unfold itoaB decB; rw [Lib.itoa_nonneg]
theorem itoaB_neg {u : Nat} (h : 1 ≤ u) : itoaB (-(u : Int)) = ⟨#[45]⟩ ++ decB u := by
  unfold itoaB decB
  rw [Lib.itoa_neg u h]
  simp [ByteArray.ext_iff]
theorem cat3 (a b c : ByteArray) : a ++ b ++ c = a ++ (b ++ c) := by simp [ByteArray.ext_iff]
theorem one45 : (ByteArray.mk #[45]).size = 1 := rfl

set_option maxHeartbeats 1000000 in
set_option maxRecDepth 100000 in
theorem digits_neg (u : Nat) (h1 : 1 ≤ u) (h : u ≤ 9223372036854775808) (w : World) :
    Calls Tryd.prog 22 #[.int .i64 (-(u : Int))] w fun e w' => e = .returned (.string (itoaB (-(u : Int)))) ∧ Below w.heap.size w w' := by
  rw [itoaB_neg h1]
  have s0 := one45
  by_cases hs : u < 10
  · have HA := hide (fun w => digits_nat u (by omega) w)
    have s1 := decB_size (u := u) (by omega)
    go_enter Tryd.func22, Tryd.ntmps22
    go_wp2_with fail
    refine (HA.out _).mono ?_
    rintro e w1 ⟨rfl, hb1⟩
    have HB1 := hide hb1
    clear hb1
    go_wp2
    go_ret
    exact ⟨rfl, HB1.out⟩
  · have HA := hide (fun w => digits_nat (u / 10) (by omega) w)
    have HB := hide (fun w => digits_nat (u % 10) (by omega) w)
    have HD := hide (decB_big hs)
    have s1 := decB_size (u := u / 10) (by omega)
    have s2 := decB_size (u := u % 10) (by omega)
    have s3 : (ByteArray.mk #[45] ++ decB (u / 10)).size ≤ 21 := by rw [ByteArray.size_append]; omega
    go_enter Tryd.func22, Tryd.ntmps22
    go_wp2_with fail
    refine (HA.out _).mono ?_
    rintro e w1 ⟨rfl, hb1⟩
    have HB1 := hide hb1
    clear hb1
    go_wp2_with fail
    refine (HB.out _).mono ?_
    rintro e w2 ⟨rfl, hb2⟩
    have HB2 := hide hb2
    clear hb2
    go_wp2
    go_ret
    exact ⟨by rw [HD.out, ← cat3]; rfl, HB1.out.trans (HB2.out.mono HB1.out.size)⟩

theorem digits_any (n : Int) (h0 : -9223372036854775808 ≤ n) (h1 : n ≤ 9223372036854775807) (w : World) :
    Calls Tryd.prog 22 #[.int .i64 n] w fun e w' => e = .returned (.string (itoaB n)) ∧ Below w.heap.size w w' := by
  by_cases hn : n < 0
  · obtain ⟨u, rfl⟩ : ∃ u : Nat, n = -(u : Int) := ⟨n.natAbs, by omega⟩
    exact digits_neg u (by omega) (by omega) w
  · obtain ⟨u, rfl⟩ : ∃ u : Nat, n = u := ⟨n.toNat, by omega⟩
    rw [itoaB_pos]
    exact digits_nat u (by omega) w
theorem itoaB_size {n : Int} (h0 : -9223372036854775808 ≤ n) (h1 : n ≤ 9223372036854775807) : (itoaB n).size ≤ 21 := Lib.itoa_length_le n h0 h1
