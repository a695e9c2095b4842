/- Lists that are the same. -/
import Derived.Test.YtjhkecnnhddhbaaGreatDoorCd
import Derived.Deep.QuietTactic
import Derived.BigQuiet
import Derived.Deep.RegionHeld3
namespace Go.Proofs.YtjhkecnnhddhbaaGreatDoor
open Go.RowKit Go.Maps Go.WideMaps
set_option maxRecDepth 100000
set_option autoImplicit false

theorem bdnW {w w1 : World} (h : Below w.heap.size w w1) (n : Nat) : Below w.heap.size w (w1.drewN n) := bdn h n
set_option maxHeartbeats 4000000 in
theorem sameInts_any (p q : Option Addr) (cp cq : Nat) (l r : List Int) (hl : l.length ≤ maxLen) (hr : r.length ≤ maxLen) (w : World) (hP : IntsAt w p l) (hQ : IntsAt w q r) :
    Calls Tryz.prog 83 #[.slice p l.length cp, .slice q r.length cq] w fun e w' => e = .returned (.bool (decide (l = r))) ∧ Below w.heap.size w w' := by
  unfold maxLen at hl hr
  by_cases hlen : l.length = r.length
  · have hne : ((l.length : Int) != (r.length : Int)) = false := by simp [hlen]
    have HL := hide hlen
    clear hlen
    go_enter Tryz.func83, Tryz.ntmps83
    go_wp2
    go_loopw [5] (fun i wr => ∃ k : Nat, k ≤ l.length ∧ i = .int .i64 k ∧ Below w.heap.size w wr ∧ Hid (∀ i (h1 : i < l.length) (h2 : i < r.length), i < k → l[i] = r[i])) (fun i _ => l.length - (intOf i).toNat)
    case atStart => exact ⟨0, Nat.zero_le _, rfl, Below.refl _ _, fun i h1 h2 h => by omega⟩
    case round =>
      obtain ⟨k, hk, rfl, hbw, hz⟩ := hrel
      by_cases hlt : k < l.length
      · have hlt2 : k < r.length := by have := HL.out; omega
        obtain ⟨b, off, rfl, hc⟩ := (hP.later hbw) (by omega)
        obtain ⟨b2, off2, rfl, hc2⟩ := (hQ.later hbw) (by omega)
        have d0 := hc k hlt
        have d1 := hc2 k hlt2
        have hi1 : (k : Int) < (l.length : Int) := by omega
        have hi2 : (k : Int) < (r.length : Int) := by omega
        have HN : Hid (l[k] = r[k] → ∀ i (h1 : i < l.length) (h2 : i < r.length), i < k + 1 → l[i] = r[i]) := by
          intro h i h1 h2 hik
          rcases Nat.lt_succ_iff_lt_or_eq.1 hik with h3 | rfl
          · exact hz.out i h1 h2 h3
          · exact h
        have HD : Hid (l[k] ≠ r[k] → decide (l = r) = false) := by
          intro h
          refine decide_eq_false (fun e => h ?_)
          subst e
          rfl
        clear hc hc2 hz
        generalize l[k] = x at *
        generalize r[k] = y at *
        by_cases hxy : x = y
        · have e1 : (x != y) = false := by simp [hxy]
          have HN2 := hide (HN.out hxy)
          clear hxy HN HD
          go_wp2
          go_quiet (fail)
          go_wp2
          go_roundw
          case rel => exact ⟨k + 1, by omega, by go_num, bdnW hbw _, HN2⟩
          case measure => simp [intOf]; omega
        · have e1 : (x != y) = true := by simp [hxy]
          have HD2 := hide (HD.out hxy)
          clear hxy HN HD
          go_wp2
          go_quiet (fail)
          go_wp2
          go_ret
          exact ⟨ret_bool HD2.out.symm, bdnW hbw _⟩
      · have HD : Hid (decide (l = r) = true) := by
          refine decide_eq_true (List.ext_getElem HL.out (fun i h1 h2 => hz.out i h1 h2 (by omega)))
        clear hz
        go_wp2
        go_ret
        exact ⟨ret_bool HD.out.symm, hbw⟩
  · have hne : ((l.length : Int) != (r.length : Int)) = true := by simp; omega
    have HD : Hid (decide (l = r) = false) := decide_eq_false (fun e => hlen (by rw [e]))
    clear hlen
    go_enter Tryz.func83, Tryz.ntmps83
    go_wp2
    go_ret
    exact ⟨ret_bool HD.out.symm, Below.refl _ _⟩
set_option maxHeartbeats 4000000 in
theorem sameLists_any (p q : Option Addr) (cp cq : Nat) (l r : List Row) (hl : l.length ≤ 9000000000000000000) (hr : r.length ≤ 9000000000000000000) (hwl : ∀ x ∈ l, x.ns.length ≤ maxLen) (hwr : ∀ x ∈ r, x.ns.length ≤ maxLen) (w : World) (hP : RowsAt w p l) (hQ : RowsAt w q r) (hI : InAt w l) (hJ : InAt w r) :
    Calls Tryz.prog 60 #[.slice p l.length cp, .slice q r.length cq] w fun e w' => e = .returned (.bool (decide (l.map Row.ns = r.map Row.ns))) ∧ Below w.heap.size w w' := by
  have HP := hide hP
  have HQ := hide hQ
  have HI := hide hI
  have HJ := hide hJ
  have HWL := hide hwl
  have HWR := hide hwr
  have HS := hide (show decide (l.map Row.ns = r.map Row.ns) = decide (l.map Row.ns = r.map Row.ns) from rfl)
  generalize hR : decide (l.map Row.ns = r.map Row.ns) = R at *
  have HR := hide hR
  clear hP hQ hI hJ hwl hwr hR HS
  by_cases hlen : l.length = r.length
  · have hne : ((l.length : Int) != (r.length : Int)) = false := by simp [hlen]
    have HL := hide hlen
    clear hlen
    go_enter Tryz.func60, Tryz.ntmps60
    go_wp2
    go_loopw [5] (fun i wr => ∃ k : Nat, k ≤ l.length ∧ i = .int .i64 k ∧ Hid (∀ i (hi : i < l.length) (hj : i < r.length), i < k → l[i].ns = r[i].ns) ∧ Hid (Below w.heap.size w wr)) (fun i _ => l.length - (intOf i).toNat)
    case atStart => exact ⟨0, Nat.zero_le _, rfl, fun i hi hj h => by omega, Below.refl _ _⟩
    case round =>
      obtain ⟨k, hk, rfl, hno, HB⟩ := hrel
      by_cases hlt : k < l.length
      · have hlt2 : k < r.length := by have := HL.out; omega
        obtain ⟨b1, o1, hp1, hc1⟩ := (HP.out.later HB.out) (by omega)
        obtain ⟨b2, o2, hp2, hc2⟩ := (HQ.out.later HB.out) (by omega)
        subst hp1
        subst hp2
        have c1 := hc1 k hlt
        have c2 := hc2 k hlt2
        have hki : (k : Int) < (l.length : Int) := by omega
        have hkj : (k : Int) < (r.length : Int) := by omega
        have hk0 : (0 : Int) ≤ (k : Int) := by omega
        have HNN : Hid (l[k].ns = r[k].ns → ∀ i (hi : i < l.length) (hj : i < r.length), i < k + 1 → l[i].ns = r[i].ns) := by
          intro he i hi hj h
          rcases Nat.lt_succ_iff_lt_or_eq.1 h with h1 | rfl
          · exact hno.out i hi hj h1
          · exact he
        have HX : Hid (l[k].ns ≠ r[k].ns → R = false) := by
          intro hne
          rw [← HR.out, decide_eq_false_iff_not]
          intro e
          apply hne
          have e1 : (l.map Row.ns)[k]? = (r.map Row.ns)[k]? := by rw [e]
          rw [List.getElem?_map, List.getElem?_map, List.getElem?_eq_getElem hlt, List.getElem?_eq_getElem hlt2] at e1
          simpa using e1
        have w1 := HWL.out l[k] (List.getElem_mem hlt)
        have w2 := HWR.out r[k] (List.getElem_mem hlt2)
        have HI1 := hide (fun (w' : World) (hb : Below w.heap.size w w') => (HI.out.later hb) l[k] (List.getElem_mem hlt))
        have HI2 := hide (fun (w' : World) (hb : Below w.heap.size w w') => (HJ.out.later hb) r[k] (List.getElem_mem hlt2))
        clear hc1 hc2 hno
        generalize l[k] = x at *
        generalize r[k] = y at *
        obtain ⟨xa, xn, xc⟩ := x
        obtain ⟨ya, yn, yc⟩ := y
        unfold Row.v at c1 c2
        simp only at *
        have hbd : Below wr.heap.size wr wr.drew := (Below.refl _ wr).drew
        have HC := hide (sameInts_any xa ya xc yc xn yn w1 w2 wr.drew (HI1.out _ (bthen HB.out hbd)) (HI2.out _ (bthen HB.out hbd)))
        by_cases hxy : xn = yn
        · have HK := hide (HNN.out hxy)
          rw [decide_eq_true hxy] at HC
          clear HNN HX hxy
          go_wp2
          go_region_held3 (fun w' => w'.cell? ⟨b1, o1 + k, none⟩ = some (.slice xa xn.length xc) ∧ w'.cell? ⟨b2, o2 + k, none⟩ = some (.slice ya yn.length yc))
            (first | exact ⟨c1, c2⟩ | exact ⟨cell_later hb2 c1, cell_later hb2 c2⟩ | go_keep)
            ((go_at_call 83; refine HC.out.mono ?_; rintro e w2' ⟨rfl, hb2⟩))
          have HB2 := hide (bthen HB.out (bthen hbd hb2))
          clear hb2 hbd HC c1 c2
          go_wp2
          go_roundw
          case rel => exact ⟨k + 1, by omega, by go_num, HK, HB2⟩
          case measure => simp [intOf]; omega
        · have HK := hide (HX.out hxy)
          rw [decide_eq_false hxy] at HC
          clear HNN HX hxy
          go_wp2
          go_region_held3 (fun w' => w'.cell? ⟨b1, o1 + k, none⟩ = some (.slice xa xn.length xc) ∧ w'.cell? ⟨b2, o2 + k, none⟩ = some (.slice ya yn.length yc))
            (first | exact ⟨c1, c2⟩ | exact ⟨cell_later hb2 c1, cell_later hb2 c2⟩ | go_keep)
            ((go_at_call 83; refine HC.out.mono ?_; rintro e w2' ⟨rfl, hb2⟩))
          have HB2 := hide (bthen HB.out (bthen hbd hb2))
          clear hb2 hbd HC c1 c2
          go_wp2
          go_ret
          exact ⟨ret_bool HK.out.symm, HB2.out⟩
      · have HK : Hid (R = true) := by
          rw [Hid, ← HR.out, decide_eq_true_iff]
          refine List.ext_getElem (by simp; exact HL.out) fun i hi hj => ?_
          rw [List.getElem_map, List.getElem_map]
          exact hno.out i (by simpa using hi) (by simpa using hj) (by simp at hi; omega)
        have hki : ¬ (k : Int) < (l.length : Int) := by omega
        go_wp2
        go_ret
        exact ⟨ret_bool HK.out.symm, HB.out⟩
  · have hne : ((l.length : Int) != (r.length : Int)) = true := by simp; omega
    have HK : Hid (R = false) := by
      rw [Hid, ← HR.out, decide_eq_false_iff_not]
      intro e
      have := congrArg List.length e
      simp at this
      exact hlen this
    clear hlen
    go_enter Tryz.func60, Tryz.ntmps60
    go_wp2
    go_ret
    exact ⟨ret_bool HK.out.symm, Below.refl _ _⟩
end Go.Proofs.YtjhkecnnhddhbaaGreatDoor
