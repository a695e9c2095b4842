/- A trace's lists: is one too long? -/
import Derived.Test.YtagaemlgompggaaGreatDoorHk
namespace Go.Proofs.YtagaemlgompggaaGreatDoor
open Go.RowKit
set_option maxRecDepth 100000

/-- A list within a row of lists: where it lies, its numbers, its capacity. -/
structure Row where
  at' : Option Addr
  ns : List Int
  cap : Nat
def Row.v (r : Row) : Value := .slice r.at' r.ns.length r.cap
def RowsAt (w : World) (p : Option Addr) (l : List Row) : Prop := 0 < l.length → ∃ b off, p = some ⟨b, off, none⟩ ∧ ∀ i (hi : i < l.length), w.cell? ⟨b, off + i, none⟩ = some l[i].v
theorem RowsAt.later {w w' : World} {p : Option Addr} {l : List Row} (h : RowsAt w p l) (hb : Below w.heap.size w w') : RowsAt w' p l := fun h0 => by
  obtain ⟨b, off, h1, h2⟩ := h h0
  exact ⟨b, off, h1, fun i hi => cell_later hb (h2 i hi)⟩
def longB (r : Row) : Bool := decide (20 < r.ns.length)

set_option maxHeartbeats 400000 in
theorem fit1_any (r : Row) (w : World) : Calls Tryz.prog 25 #[r.v] w fun e w' => e = .returned (.bool (longB r)) ∧ w' = w := by
  obtain ⟨a, ns, cap⟩ := r
  unfold Row.v
  have HE := hide (show longB ⟨a, ns, cap⟩ = decide (20 < ns.length) from rfl)
  simp only
  go_enter Tryz.func25, Tryz.ntmps25
  go_wp2
  go_ret
  exact ⟨ret_bool (by rw [HE.out]; simp; try omega), rfl⟩

set_option maxRecDepth 100000 in
set_option maxHeartbeats 2000000 in
theorem indexLong_any (l : List Row) (p : Option Addr) (cap : Nat) (w : World) (hl : l.length ≤ 9223372036854775807) (hI : RowsAt w p l) :
    Calls Tryz.prog 37 #[.slice p l.length cap, .func (.func 25) #[] #[]] w fun e w' => e = .returned (.int .i64 (findE longB l)) ∧ w' = w := by
  have HI := hide hI
  clear hI
  go_enter Tryz.func37, Tryz.ntmps37
  go_wp2
  go_loopw [8] (fun i wr => ∃ k : Nat, k ≤ l.length ∧ i = .int .i64 k ∧ Hid (∀ i (hi : i < l.length), i < k → longB l[i] = false) ∧ wr = w) (fun i _ => l.length - (intOf i).toNat)
  case atStart => exact ⟨0, Nat.zero_le _, rfl, fun i hi h => by omega, rfl⟩
  case round =>
    obtain ⟨k, hk, rfl, hno, rfl⟩ := hrel
    by_cases hlt : k < l.length
    · obtain ⟨b, off, rfl, hc⟩ := HI.out (by omega)
      have hck := hc k hlt
      have HH := hide (findE_hit longB l k hlt hno.out)
      have HQ := hide (fun w => fit1_any l[k] w)
      clear hc
      generalize hv : l[k].v = v at *
      cases hf : longB l[k]
      · have HN : Hid (∀ i (hi : i < l.length), i < k + 1 → longB l[i] = false) := by
          intro i hi h
          rcases Nat.lt_succ_iff_lt_or_eq.1 h with h1 | rfl
          · exact hno.out i hi h1
          · exact hf
        have HF := hide hf
        have HV := hide hv
        clear hf hno HH hv
        go_wp2_with fail
        refine (HQ.out _).mono ?_
        rintro e w' ⟨rfl, rfl⟩
        rw [HF.out]
        go_wp2
        go_roundw
        case rel => exact ⟨k + 1, by omega, by go_num, HN, trivial⟩
        case measure => simp [intOf]; omega
      · have HV := hide (HH.out hf)
        have HF := hide hf
        clear hf hno HH hv
        go_wp2_with fail
        refine (HQ.out _).mono ?_
        rintro e w' ⟨rfl, rfl⟩
        rw [HF.out]
        go_wp2
        go_ret
        exact ⟨ret_int HV.out.symm, rfl⟩
    · have HV := hide (findE_miss longB l (fun i hi => hno.out i hi (by omega)))
      go_wp2
      go_ret
      exact ⟨ret_int HV.out.symm, rfl⟩

set_option maxHeartbeats 1000000 in
theorem anyLong_any (l : List Row) (p : Option Addr) (cap : Nat) (w : World) (hl : l.length ≤ 9223372036854775807) (hI : RowsAt w p l) :
    Calls Tryz.prog 24 #[.slice p l.length cap, .func (.func 25) #[] #[]] w fun e w' => e = .returned (.bool (l.any longB)) ∧ w' = w := by
  have HC := hide (indexLong_any l p cap w hl hI)
  have HG := hide (findE_ge longB l)
  clear hI
  generalize findE longB l = x at *
  go_enter Tryz.func24, Tryz.ntmps24
  go_wp2_with fail
  refine HC.out.mono ?_
  rintro e w' ⟨rfl, rfl⟩
  go_wp2
  go_ret
  exact ⟨ret_bool HG.out, rfl⟩
end Go.Proofs.YtagaemlgompggaaGreatDoor
