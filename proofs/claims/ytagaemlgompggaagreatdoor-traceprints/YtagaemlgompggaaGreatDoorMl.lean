/- Marks are checked. -/
import Derived.Test.YtagaemlgompggaaGreatDoorMk
namespace Go.Proofs.YtagaemlgompggaaGreatDoor.Ev
open Go.RowKit
set_option maxRecDepth 100000

/-- Is one of the pairs of this state? -/
def hasSt (s : Int) (l : List (Int × Int)) : Bool := l.any (fun p => p.1 == s)

theorem enter74 (args : Array Value) (w : World) : (callFunc 101 args).run Tryz.prog w = .ok (.enter 101 args) w := by kernel_rfl
theorem enter75 (args : Array Value) (w : World) : (callFunc 102 args).run Tryz.prog w = .ok (.enter 102 args) w := by kernel_rfl
theorem enter76 (args : Array Value) (w : World) : (callFunc 104 args).run Tryz.prog w = .ok (.enter 104 args) w := by kernel_rfl

theorem marks1_any (a b s : Int) (B : Nat) (w : World) (hB : w.cell? ⟨B, 0, none⟩ = some (.int .i64 s)) :
    Calls Tryz.prog 101 #[.agg #[.int .i64 a, .int .i64 b], .pointer (some ⟨B, 0, none⟩)] w fun e w' => e = .returned (.bool (a == s)) ∧ Below w.heap.size w w' := by
  have t := past1 hB
  go_enter Tryz.func101, Tryz.ntmps101
  go_wp2
  go_ret
  exact ⟨rfl, bal (Below.refl _ _) _⟩

set_option maxRecDepth 100000 in
set_option maxHeartbeats 1000000 in
theorem indexPair_any (s : Int) (B : Nat) (l : List (Int × Int)) (p : Option Addr) (cap : Nat) (w : World) (hl : l.length ≤ 8796093022208) (hP : PairsAt w p l) (hB : w.cell? ⟨B, 0, none⟩ = some (.int .i64 s)) :
    Calls Tryz.prog 113 #[.slice p l.length cap, .func (.func 101) #[] #[.pointer (some ⟨B, 0, none⟩)]] w fun e w' => (∃ r : Int, e = .returned (.int .i64 r) ∧ (decide (0 ≤ r) = hasSt s l)) ∧ Below w.heap.size w w' := by
  go_enter Tryz.func113, Tryz.ntmps113
  go_wp2
  go_loopw [8] (fun i wr => ∃ k : Nat, k ≤ l.length ∧ i = .int .i64 k ∧ Hid (∀ i (hi : i < l.length), i < k → (l[i].1 == s) = false) ∧ Below w.heap.size w wr) (fun i _ => l.length - (intOf i).toNat)
  case atStart => exact ⟨0, Nat.zero_le _, rfl, fun i hi h => by omega, Below.refl _ _⟩
  case round =>
    obtain ⟨k, hk, rfl, hno, hbw⟩ := hrel
    by_cases hlt : k < l.length
    · obtain ⟨b, off, rfl, hc⟩ := (hP.later hbw) (by omega)
      obtain ⟨d0, d1⟩ := hc k hlt
      have hBr := cell_later hbw hB
      have HM : Hid ((l[k].1 == s) = true → hasSt s l = true) := fun h => List.any_eq_true.2 ⟨l[k], List.getElem_mem hlt, h⟩
      have HN : Hid ((l[k].1 == s) = false → ∀ i (hi : i < l.length), i < k + 1 → (l[i].1 == s) = false) := by
        intro h i hi hik
        rcases Nat.lt_succ_iff_lt_or_eq.1 hik with h1 | rfl
        · exact hno.out i hi h1
        · exact h
      clear hc hno
      generalize l[k] = pr at *
      obtain ⟨a, y⟩ := pr
      simp only at *
      go_wp2_with fail
      refine (marks1_any a y s B _ hBr).mono ?_
      rintro e w' ⟨rfl, hb2⟩
      cases hf : a == s
      · have HN2 := hide (HN.out hf)
        clear hf HN HM
        go_wp2
        go_roundw
        case rel => exact ⟨k + 1, by omega, by go_num, HN2, bthen hbw hb2⟩
        case measure => simp [intOf]; omega
      · have HM2 := hide (HM.out hf)
        clear hf HN HM
        go_wp2
        go_ret
        exact ⟨⟨_, rfl, by rw [HM2.out]; simp⟩, bthen hbw hb2⟩
    · have HV : Hid (hasSt s l = false) := by
        unfold hasSt
        refine List.any_eq_false.2 (fun x hx => ?_)
        obtain ⟨i, hi, rfl⟩ := List.getElem_of_mem hx
        simp [hno.out i hi (by omega)]
      clear hno
      go_wp2
      go_ret
      exact ⟨⟨_, rfl, by rw [HV.out]; rfl⟩, hbw⟩

theorem containsPair_any (s : Int) (B : Nat) (l : List (Int × Int)) (p : Option Addr) (cap : Nat) (w : World) (hl : l.length ≤ 8796093022208) (hP : PairsAt w p l) (hB : w.cell? ⟨B, 0, none⟩ = some (.int .i64 s)) :
    Calls Tryz.prog 100 #[.slice p l.length cap, .func (.func 101) #[] #[.pointer (some ⟨B, 0, none⟩)]] w fun e w' => e = .returned (.bool (hasSt s l)) ∧ Below w.heap.size w w' := by
  have HC := hide (fun _ : Unit => indexPair_any s B l p cap w hl hP hB)
  clear hP hB
  go_enter Tryz.func100, Tryz.ntmps100
  go_wp2_with fail
  refine (HC.out ()).mono ?_
  rintro e w' ⟨⟨r, rfl, hr⟩, hb2⟩
  have HR := hide hr
  clear hr
  go_wp2
  go_ret
  exact ⟨ret_bool HR.out, hb2⟩

theorem marks2_any (m : Mv) (len : Nat) (hl : len ≤ 80) (x : Int) (B : Nat) (w : World) (hB : Box w B m len) :
    Calls Tryz.prog 102 #[.int .i64 x, .pointer (some ⟨B, 0, none⟩)] w fun e w' => e = .returned (.bool (!isN len x)) ∧ Below w.heap.size w w' := by
  obtain ⟨q0, q1, q2, q3, q4⟩ := hB
  go_enter Tryz.func102, Tryz.ntmps102
  go_wp2_with fail
  refine (isNode_below m len (by unfold maxLen; omega) x _).mono ?_
  rintro e w1 ⟨rfl, hb1⟩
  go_wp2
  go_ret
  exact ⟨rfl, hb1⟩

theorem marks3_any (m : Mv) (ns : List Nd) (hl : ns.length ≤ 80) (x : Int) (hx : 0 ≤ x ∧ x < ns.length) (B : Nat) (w : World) (hB : Box w B m ns.length) (hN : NodesAt w m.a0 ns) :
    Calls Tryz.prog 104 #[.int .i64 x, .pointer (some ⟨B, 0, none⟩)] w fun e w' => e = .returned (.bool (wdOf ns x != 1)) ∧ Below w.heap.size w w' := by
  obtain ⟨q0, q1, q2, q3, q4⟩ := hB
  obtain ⟨b, off, hp, hc⟩ := hN (by omega)
  have hw := wd_cell hc x hx.1 hx.2
  rw [hp] at q0
  clear hp hc hN q1 q2 q3 q4
  go_enter Tryz.func104, Tryz.ntmps104
  go_wp2
  go_ret
  exact ⟨rfl, Below.refl _ _⟩

end Go.Proofs.YtagaemlgompggaaGreatDoor.Ev
