/- The plain texts of steps: a number, does a list have it, what adds a clause, a bit. -/
import Derived.Test.YtjhkecnnhddhbaaGreatDoorKq
namespace Go.Proofs.YtjhkecnnhddhbaaGreatDoor
open Go.RowKit Go.Maps Go.WideMaps
set_option maxRecDepth 100000
set_option autoImplicit false

/-- The number of a literal, so many variables on. -/
def numP (x off : Int) : Int := if odd x = true then -(x / 2 + off) else x / 2 + off
theorem numP_at (f : Int) (t : Nat) (x : Int) (hx : 2 ≤ x) : numP x (t * f) = numL (atL f t x) := by
  have h1 : ¬ x / 2 = 0 := by omega
  have h2 : (x + 2 * (t * f)) / 2 = x / 2 + t * f := by omega
  have h3 : odd (x + 2 * (t * f)) = odd x := by unfold odd; rw [show (x + 2 * ((t : Int) * f)) % 2 = x % 2 by omega]
  unfold numP numL atL
  rw [if_neg h1, h2, h3]
set_option maxHeartbeats 1000000 in
theorem numP_any (x off : Int) (h : 0 ≤ x) (h2 : x ≤ 10000000) (h3 : 0 ≤ off) (h4 : off ≤ 10000000) (w : World) :
    Calls Tryz.prog 26 #[.int .i64 x, .int .i64 off] w fun e w' => e = .returned (.int .i64 (numP x off)) ∧ w' = w := by
  have HE : Hid (numP x off = if odd x = true then -(x / 2 + off) else x / 2 + off) := rfl
  generalize numP x off = R at *
  have wa := wrap_id (x := x / 2 + off) (by omega) (by omega)
  have wn := wrap_id (x := -(x / 2 + off)) (by omega) (by omega)
  by_cases ho : x % 2 = 1
  · have HX : Hid (R = -(x / 2 + off)) := by unfold Hid; rw [HE.out, if_pos (by simpa [odd] using ho)]
    go_enter Tryz.func26, Tryz.ntmps26
    go_wp2
    go_ret
    exact ⟨ret_int HX.out.symm, rfl⟩
  · have HX : Hid (R = x / 2 + off) := by unfold Hid; rw [HE.out, if_neg (by simpa [odd] using ho)]
    have hb : (x % 2 == 1) = false := by simpa using ho
    go_enter Tryz.func26, Tryz.ntmps26
    go_wp2
    go_ret
    exact ⟨ret_int HX.out.symm, rfl⟩
set_option maxHeartbeats 2000000 in
theorem hasP_any (x : Int) (l : List Int) (q : Option Addr) (qc : Nat) (hl : l.length ≤ 17592186044416) (w : World) (hI : IntsAt w q l) :
    Calls Tryz.prog 28 #[.slice q l.length qc, .int .i64 x] w fun e w' => e = .returned (.bool (decide (x ∈ l))) ∧ w' = w := by
  have HI := hide hI
  clear hI
  have HD : Hid (∀ b : Bool, (b = true ↔ x ∈ l) → decide (x ∈ l) = b) := fun b h => by rw [Bool.eq_iff_iff]; simp [h]
  generalize decide (x ∈ l) = R at *
  go_enter Tryz.func28, Tryz.ntmps28
  go_wp2
  go_loopw [5] (fun i wr => ∃ k : Nat, k ≤ l.length ∧ i = .int .i64 k ∧ Hid (x ∉ l.take k) ∧ wr = w) (fun i _ => l.length - (intOf i).toNat)
  case atStart => exact ⟨0, Nat.zero_le _, rfl, by simp [Hid], rfl⟩
  case round =>
    obtain ⟨k, hk, rfl, HN, hwr⟩ := hrel
    obtain rfl : w = wr := hwr.symm
    by_cases hlt : k < l.length
    · obtain ⟨b, off, rfl, hcs⟩ := HI.out (by omega)
      have c0 := hcs k hlt
      have hki : (k : Int) < (l.length : Int) := by omega
      have HM : Hid (l[k] ∈ l) := List.getElem_mem hlt
      have HS : Hid (l.take (k + 1) = l.take k ++ [l[k]]) := List.take_succ_eq_append_getElem hlt
      clear hcs
      generalize l[k] = y at *
      by_cases hy : y = x
      · subst hy
        have HE : Hid (R = true) := HD.out true ⟨fun _ => HM.out, fun _ => rfl⟩
        clear HN HM HS HD
        go_wp2
        go_ret
        exact ⟨ret_bool HE.out.symm, rfl⟩
      · have hyb : (y == x) = false := by simpa using hy
        have HN2 : Hid (x ∉ l.take (k + 1)) := by
          unfold Hid
          rw [HS.out]
          intro h
          rcases List.mem_append.1 h with h | h
          · exact HN.out h
          · exact hy ((by simpa using h : x = y).symm)
        clear HN HM HS hy
        go_wp2
        go_roundw
        case rel => exact ⟨k + 1, by omega, by go_num, HN2, trivial⟩
        case measure => simp [intOf]; omega
    · obtain rfl : k = l.length := by omega
      have HE : Hid (R = false) := HD.out false ⟨(fun h => by cases h), fun h => absurd (by rw [List.take_length]; exact h) HN.out⟩
      clear HN HD
      go_wp2
      go_ret
      exact ⟨ret_bool HE.out.symm, rfl⟩
set_option maxHeartbeats 2000000 in
theorem bit_any (f a : Int) (t i : Nat) (ht0 : 0 ≤ (t : Int) * f) (ht : (t : Int) * f ≤ 10000000) (ha : 0 ≤ a) (ha2 : a ≤ 1000) (hi : i ≤ 1000) (F B : Nat) (w : World) (c0 : w.cell? ⟨F, 0, none⟩ = some (.int .i64 f)) (c2 : w.cell? ⟨B, 2, none⟩ = some (.int .i64 a)) :
    Calls Tryz.prog 24 #[.int .i64 t, .int .i64 i, .pointer (some ⟨F, 0, none⟩), .pointer (some ⟨B, 0, none⟩)] w fun e w' => e = .returned (.int .i64 (t * f + 1 + a + i)) ∧ w' = w := by
  have w1 := wrap_id (x := (t : Int) * f) (by omega) (by omega)
  have w2 := wrap_id (x := (t : Int) * f + 1) (by omega) (by omega)
  have w3 := wrap_id (x := (t : Int) * f + 1 + a) (by omega) (by omega)
  have w4 := wrap_id (x := (t : Int) * f + 1 + a + (i : Int)) (by omega) (by omega)
  go_enter Tryz.func24, Tryz.ntmps24
  go_wp2
  go_ret
  exact ⟨rfl, rfl⟩
end Go.Proofs.YtjhkecnnhddhbaaGreatDoor
