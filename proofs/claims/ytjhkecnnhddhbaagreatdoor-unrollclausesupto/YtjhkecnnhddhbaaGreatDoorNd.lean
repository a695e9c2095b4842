/- A search's choices, of a circuit without inputs; what is settled with less than all fuel: the walks. -/
import Derived.Test.YtjhkecnnhddhbaaGreatDoorNc
namespace Go.Proofs.YtjhkecnnhddhbaaGreatDoor.Sr
open Go.RowKit Go.Maps Go.Proofs.YtjhkecnnhddhbaaGreatDoor.Pf
set_option maxRecDepth 100000
set_option autoImplicit false

/-- The value of a circuit without inputs. -/
def cir0 (ins : Int) (va : Value) (st : Nat) (v4 v5 v6 v7 : Value) : Value := .agg #[.int .i64 ins, va, .int .i64 0, .int .i64 st, v4, v5, v6, v7]
def ChOu (w : World) (e : Ending) (w' : World) : Prop := ∃ p n c, e = .returned (.slice p n c) ∧ Below w.heap.size w w'
set_option maxHeartbeats 4000000 in
theorem choices0 (ins : Int) (va : Value) (st : Nat) (hst : st ≤ 900) (v4 v5 v6 v7 : Value) (steps : Nat) (hs : steps ≤ 40) (w : World) :
    Calls Tryz.prog 102 #[cir0 ins va st v4 v5 v6 v7, .int .i64 steps] w (ChOu w) := by
  have hb1 : Below w.heap.size w (w.alloc (.cells #[.int .i64 ins, va, .int .i64 0, .int .i64 st, v4, v5, v6, v7] 27)) := bal (Below.refl _ _) _
  have x2 : (w.alloc (.cells #[.int .i64 ins, va, .int .i64 0, .int .i64 st, v4, v5, v6, v7] 27)).cell? ⟨w.heap.size, 2, none⟩ = some (.int .i64 0) := by simp [go_sem]
  have x3 : (w.alloc (.cells #[.int .i64 ins, va, .int .i64 0, .int .i64 st, v4, v5, v6, v7] 27)).cell? ⟨w.heap.size, 3, none⟩ = some (.int .i64 st) := by simp [go_sem]
  have HB1 := hide hb1
  have hsz : w.heap.size < (w.alloc (.cells #[.int .i64 ins, va, .int .i64 0, .int .i64 st, v4, v5, v6, v7] 27)).heap.size := by simp
  clear hb1
  unfold cir0
  go_enter Tryz.func102, Tryz.ntmps102
  go_wp2_with fail
  generalize w.alloc (.cells #[.int .i64 ins, va, .int .i64 0, .int .i64 st, v4, v5, v6, v7] 27) = w1 at *
  go_loopw [5, 11] (fun vl vi wr => ∃ k : Nat, k ≤ st ∧ vi = .int .i64 k ∧ Hid ((∃ l : List Int, l.length = k ∧ wr.ownsRow 0 3 1 vl l.length (l.map (Value.int .i64)) ∧ ∀ g, vl.ownBlock = some g → w1.heap.size ≤ g) ∧ Below w1.heap.size w1 wr)) (fun _ vi _ => st - (intOf vi).toNat)
  case atStart => exact ⟨0, Nat.zero_le _, rfl, ⟨[], rfl, row_nil _ _ _ _, fun g hg => by cases hg⟩, Below.refl _ _⟩
  case round =>
    obtain ⟨k, hk, rfl, HJ⟩ := hrel
    obtain ⟨⟨l, hl, hrow, hown⟩, hbr⟩ := HJ.out
    subst hl
    by_cases hlt : l.length < st
    · have hlti : (l.length : Int) < (st : Int) := by omega
      have y2 := cell_later hbr x2
      obtain ⟨vo1, w2, hr2, ⟨p2, c2, hv2⟩, ho2, hnew2, hold2, hsz2, o2, t2, u2⟩ := own_append hrow (1 + (l.length : Int)) (by omega) 25
      obtain ⟨p0, c0, hv0⟩ : ∃ p0 c0, u5 = .slice p0 l.length c0 := by
        rcases hrow.2 with ⟨e, h0⟩ | ⟨g, cap, cur, e, _⟩
        · exact ⟨none, 0, by rw [e, h0]⟩
        · exact ⟨_, _, e⟩
      have HNX : Hid ((∃ l' : List Int, l'.length = l.length + 1 ∧ w2.ownsRow 0 3 1 vo1 l'.length (l'.map (Value.int .i64)) ∧ ∀ g, vo1.ownBlock = some g → w1.heap.size ≤ g) ∧ Below w1.heap.size w1 w2) := by
        refine ⟨⟨l ++ [1 + (l.length : Int)], by simp, ho2, fun g hg => ?_⟩, hbr.trans ⟨o2, t2, u2, hsz2, fun g hg => hold2 g (by have := hbr.size; omega) fun e => by have := hown g e; omega⟩⟩
        rcases hnew2 g hg with e | e
        · exact hown g e
        · have := hbr.size; omega
      have ww := wrap_in (1 + (l.length : Int)) (by omega) (by omega)
      subst hv0
      subst hv2
      clear hrow hown ho2 hnew2 hold2 hsz2 o2 t2 u2 HJ
      go_wp2_with (at_builtin; refine Lib.wpList_append_run _ rfl _ _ _ _ rfl _ _ rfl rfl _ _ hr2 ?_)
      go_roundw
      case rel => exact ⟨l.length + 1, hlt, by go_num, HNX⟩
      case measure => simp [intOf]; omega
    · have hlti : ¬ (l.length : Int) < (st : Int) := by omega
      have y2 := cell_later hbr x2
      obtain ⟨p0, c0, hv0⟩ : ∃ p0 c0, u5 = .slice p0 l.length c0 := by
        rcases hrow.2 with ⟨e, h0⟩ | ⟨g, cap, cur, e, _⟩
        · exact ⟨none, 0, by rw [e, h0]⟩
        · exact ⟨_, _, e⟩
      have HBR := hide (bthen HB1.out hbr)
      have ww := wrap_in ((steps : Int) + 1) (by omega) (by omega)
      subst hv0
      clear hrow hown HJ hbr
      go_wp2_with fail
      go_loopw [5, 25] (fun vl vi w3 => ∃ j : Nat, j ≤ steps + 1 ∧ vi = .int .i64 j ∧ vl = .slice p0 l.length c0 ∧ w3 = wr) (fun _ vi _ => steps + 1 - (intOf vi).toNat)
      case atStart => exact ⟨0, Nat.zero_le _, rfl, rfl, rfl⟩
      case round =>
        obtain ⟨j, hj, rfl, rfl, rfl⟩ := hrel
        by_cases hjl : j < steps + 1
        · have hji : (j : Int) < (steps : Int) + 1 := by omega
          go_wp2_with fail
          go_loopg [5, 30] 0 (fun _ vl v30 w3 => vl = .slice p0 l.length c0 ∧ v30 = .int .i64 0 ∧ w3 = wr)
          case atStart => exact ⟨rfl, rfl, rfl⟩
          case round =>
            obtain ⟨rfl, rfl, rfl⟩ := hrel
            go_wp2
            go_roundw
            case rel => exact ⟨j + 1, by omega, by go_num, rfl, trivial⟩
            case measure => simp [intOf]; omega
        · have hji : ¬ (j : Int) < (steps : Int) + 1 := by omega
          go_wp2
          go_ret
          exact ⟨_, _, _, rfl, HBR.out⟩
set_option maxHeartbeats 4000000 in
/-- With less than all fuel it is Solve's word. -/
theorem settle0 (ins : Int) (va : Value) (st : Nat) (hst : st ≤ 900) (v4 v5 v6 v7 : Value) (steps : Nat) (hs : steps ≤ 40) (V : Int) (p : Option Addr) (n cap : Nat) (fuel v : Int) (hf : fuel < 1000000) (Pv : Option Addr → Nat → Nat → World → Prop) (hP : ∀ q k c w w', Pv q k c w → Below w.heap.size w w' → Pv q k c w') (w : World)
    (hS : ∀ W, Below w.heap.size w W → Calls Tryz.prog 129 #[.agg #[.int .i64 V, .slice p n cap], .int .i64 fuel] W (SvOut W v Pv)) :
    Calls Tryz.prog 81 #[cir0 ins va st v4 v5 v6 v7, .int .i64 steps, .agg #[.int .i64 V, .slice p n cap], .int .i64 fuel] w (HvOut w v Pv) := by
  have hb1 : Below w.heap.size w ((w.alloc (.cells #[.int .i64 ins, va, .int .i64 0, .int .i64 st, v4, v5, v6, v7] 27)).alloc (.cells #[.int .i64 V, .slice p n cap] 30)) := bal (bal (Below.refl _ _) _) _
  have HCH := hide (choices0 ins va st hst v4 v5 v6 v7 steps hs ((w.alloc (.cells #[.int .i64 ins, va, .int .i64 0, .int .i64 st, v4, v5, v6, v7] 27)).alloc (.cells #[.int .i64 V, .slice p n cap] 30)))
  have x0 : ((w.alloc (.cells #[.int .i64 ins, va, .int .i64 0, .int .i64 st, v4, v5, v6, v7] 27)).alloc (.cells #[.int .i64 V, .slice p n cap] 30)).cell? ⟨w.heap.size + 1, 0, none⟩ = some (.int .i64 V) := by simp [go_sem]
  have x1 : ((w.alloc (.cells #[.int .i64 ins, va, .int .i64 0, .int .i64 st, v4, v5, v6, v7] 27)).alloc (.cells #[.int .i64 V, .slice p n cap] 30)).cell? ⟨w.heap.size + 1, 1, none⟩ = some (.slice p n cap) := by simp [go_sem]
  have hfl : decide (fuel < 1000000) = true := decide_eq_true hf
  have HB1 := hide hb1
  have HS := hide hS
  have HP := hide hP
  clear hS hb1 hP
  unfold cir0 at *
  go_enter Tryz.func81, Tryz.ntmps81
  go_wp2_with fail
  generalize (w.alloc (.cells #[.int .i64 ins, va, .int .i64 0, .int .i64 st, v4, v5, v6, v7] 27)).alloc (.cells #[.int .i64 V, .slice p n cap] 30) = w1 at *
  refine HCH.out.mono ?_
  rintro e w2 ⟨pc, nc, cc, rfl, hb2⟩
  have y0 := cell_later hb2 x0
  have y1 := cell_later hb2 x1
  have HB2 := hide (bthen HB1.out hb2)
  have HHV := hide (halve_none V p n cap fuel v Pv HP.out w2 (fun W hb => HS.out W (bthen HB2.out hb)))
  clear hb2 x0 x1 HCH HB1
  go_wp2_with fail
  refine HHV.out.mono ?_
  rintro e w3 ⟨q, k, c, rfl, hpv, hb3⟩
  have HPV := hide hpv
  have HB3 := hide (bthen HB2.out hb3)
  clear hpv hb3 HHV y0 y1 HB2
  go_wp2
  go_ret2
  exact ⟨q, k, c, rfl, HPV.out, HB3.out⟩
end Go.Proofs.YtjhkecnnhddhbaaGreatDoor.Sr
