/- Gates: the plain text: same graphs, a graph is checked. -/
import Derived.Test.YtabnimgpednhjabGc
namespace Go.Proofs.Ytabnimgpednhjab
open Go.RowKit Go.Maps Go.WideMaps
set_option maxRecDepth 100000

def sameG (i j : Int) (ps qs : List (Int × Int)) : Bool := decide (i = j) && decide (ps = qs)

set_option maxRecDepth 100000 in
set_option maxHeartbeats 2000000 in
theorem sameGraph_any (i j : Int) (ps qs : List (Int × Int)) (hwp : WfP ps) (hwq : WfP qs) (p q : Option Addr) (pc qc : Nat) (hl : ps.length ≤ 8796093022208) (w : World) (hU : PairsAt w p ps) (hV : PairsAt w q qs) :
    Calls Try.prog 15 #[gval i p ps.length pc, gval j q qs.length qc] w fun r w' => r = .returned (.bool (sameG i j ps qs)) ∧ Below w.heap.size w w' := by
  have hB0 : Below w.heap.size w ((w.alloc (.cells #[.int .i64 i, .slice p ps.length pc] 24)).alloc (.cells #[.int .i64 j, .slice q qs.length qc] 24)) := bal (bal (Below.refl _ _) _) _
  have HWP := hide hwp
  have HWQ := hide hwq
  clear hwp hwq
  by_cases hij : i = j
  · subst hij
    have HS : Hid (sameG i i ps qs = decide (ps = qs)) := by simp [sameG, Hid]
    generalize sameG i i ps qs = R at *
    by_cases hn : ps.length = qs.length
    · have HN := hide hn
      rw [show qs.length = ps.length from hn.symm] at hB0 ⊢
      clear hn
      go_enter Try.func15, Try.ntmps15
      go_wp2
      go_loopw [5] (fun i wr => ∃ k : Nat, k ≤ ps.length ∧ i = .int .i64 k ∧ Hid (∀ i (hi : i < ps.length) (hj : i < qs.length), i < k → ps[i] = qs[i]) ∧ Below w.heap.size w wr ∧ wr.cell? ⟨w.heap.size, 1, none⟩ = some (.slice p ps.length pc) ∧ wr.cell? ⟨w.heap.size + 1, 1, none⟩ = some (.slice q ps.length qc)) (fun i _ => ps.length - (intOf i).toNat)
      case atStart => exact ⟨0, Nat.zero_le _, rfl, fun i hi hj h => by omega, hB0, by simp [go_sem], by simp [go_sem]⟩
      case round =>
        obtain ⟨k, hk, rfl, hno, hbw, q0, q1⟩ := hrel
        by_cases hlt : k < ps.length
        · have hlt2 : k < qs.length := by rw [← HN.out]; exact hlt
          obtain ⟨b1, o1, rfl, hc1⟩ := (hU.later hbw) (by omega)
          obtain ⟨b2, o2, rfl, hc2⟩ := (hV.later hbw) (by omega)
          obtain ⟨c0, c1⟩ := hc1 k hlt
          obtain ⟨d0, d1⟩ := hc2 k hlt2
          have hki : (k : Int) < (ps.length : Int) := by omega
          have hw1 := HWP.out k hlt
          have hw2 := HWQ.out k hlt2
          have he := @run_neq55 ps[k].1 ps[k].2 qs[k].1 qs[k].2 hw1.1 hw1.2 hw2.1 hw2.2
          have HNN : Hid (ps[k] = qs[k] → ∀ i (hi : i < ps.length) (hj : i < qs.length), i < k + 1 → ps[i] = qs[i]) := by
            intro he i hi hj h
            rcases Nat.lt_succ_iff_lt_or_eq.1 h with h1 | rfl
            · exact hno.out i hi hj h1
            · exact he
          have HX : Hid (ps[k] ≠ qs[k] → R = false) := by
            intro hne
            rw [HS.out, decide_eq_false_iff_not]
            intro e
            subst e
            exact hne rfl
          clear hc1 hc2 hno hw1 hw2
          generalize ps[k] = x at *
          generalize qs[k] = y at *
          obtain ⟨x1, x2⟩ := x
          obtain ⟨y1, y2⟩ := y
          simp only at *
          cases hxy : eqP x1 x2 y1 y2
          · have HK := hide (HX.out (by simpa [eqP] using hxy))
            rw [hxy] at he
            clear HNN HX hxy
            go_wp2
            go_quiet (fail)
            go_wp2
            go_ret
            exact ⟨ret_bool HK.out.symm, bdn hbw _⟩
          · have HK := hide (HNN.out (by simpa [eqP] using hxy))
            rw [hxy] at he
            clear HNN HX hxy
            go_wp2
            go_quiet (fail)
            go_wp2
            go_roundw
            case rel => exact ⟨k + 1, by omega, by go_num, HK, bdn hbw _, q0, q1⟩
            case measure => simp [intOf]; omega
        · have HK : Hid (R = true) := by
            rw [Hid, HS.out, decide_eq_true_iff]
            exact List.ext_getElem HN.out fun i hi hj => hno.out i hi hj (by omega)
          go_wp2
          go_ret
          exact ⟨ret_bool HK.out.symm, hbw⟩
    · have hx : ((ps.length : Int) != (qs.length : Int)) = true := by simp; omega
      have HK : Hid (R = false) := by
        rw [Hid, HS.out, decide_eq_false_iff_not]; intro e; exact hn (by rw [e])
      clear hn
      go_enter Try.func15, Try.ntmps15
      go_wp2
      go_ret
      exact ⟨ret_bool HK.out.symm, hB0⟩
  · have HS : Hid (sameG i j ps qs = false) := by simp [sameG, hij, Hid]
    have hx : (i != j) = true := by simpa using hij
    clear hij
    go_enter Try.func15, Try.ntmps15
    go_wp2
    go_ret
    exact ⟨ret_bool HS.out.symm, hB0⟩

/-- Do the first k stand? -/
def stN (ins : Int) (ps : List (Int × Int)) : Nat → Bool
  | 0 => true
  | k + 1 => stN ins ps k && (match ps[k]? with | some p => standB p.1 p.2 (1 + ins + k) | none => true)
theorem stN_succ {ins : Int} {ps : List (Int × Int)} {k : Nat} (h : k < ps.length) : stN ins ps (k + 1) = (stN ins ps k && standB ps[k].1 ps[k].2 (1 + ins + k)) := by
  simp [stN, List.getElem?_eq_getElem h]
theorem stN_down {ins : Int} {ps : List (Int × Int)} {k n : Nat} (h : stN ins ps n = true) (hk : k ≤ n) : stN ins ps k = true := by
  induction n with
  | zero => obtain rfl : k = 0 := by omega
            exact h
  | succ n ih =>
    by_cases e : k = n + 1
    · rw [e]; exact h
    · simp only [stN, Bool.and_eq_true] at h
      exact ih h.1 (by omega)

/-- Is a pair there twice, among the first k? -/
def dupN (ps : List (Int × Int)) : Nat → Bool
  | 0 => false
  | k + 1 => dupN ps k || (match ps[k]? with | some p => decide (0 ≤ andAt ps k p) | none => false)
theorem dupN_succ {ps : List (Int × Int)} {k : Nat} (h : k < ps.length) : dupN ps (k + 1) = (dupN ps k || decide (0 ≤ andAt ps k ps[k])) := by
  simp [dupN, List.getElem?_eq_getElem h]
theorem dupN_up {ps : List (Int × Int)} {k n : Nat} (h : dupN ps k = true) (hk : k ≤ n) : dupN ps n = true := by
  induction n with
  | zero => obtain rfl : k = 0 := by omega
            exact h
  | succ n ih =>
    by_cases e : k = n + 1
    · rw [← e]; exact h
    · simp only [dupN, Bool.or_eq_true]
      exact Or.inl (ih (by omega))

/-- What is said of a graph. -/
def chkE (ins : Int) (ps : List (Int × Int)) : Int :=
  if btw ins 0 1000 = false then 3 else if 1000000 < ps.length then 2 else if stN ins ps ps.length = false then 4 else if dupN ps ps.length = true then 6 else 0

theorem chk_range {ins : Int} {ps : List (Int × Int)} (h : btw ins 0 1000 = false) : chkE ins ps = 3 := by unfold chkE; rw [if_pos h]
theorem chk_many {ins : Int} {ps : List (Int × Int)} (h : btw ins 0 1000 = true) (h2 : 1000000 < ps.length) : chkE ins ps = 2 := by unfold chkE; rw [if_neg (by simp [h]), if_pos h2]
theorem chk_state {ins : Int} {ps : List (Int × Int)} (h : btw ins 0 1000 = true) (h2 : ps.length ≤ 1000000) (h3 : stN ins ps ps.length = false) : chkE ins ps = 4 := by unfold chkE; rw [if_neg (by simp [h]), if_neg (by omega), if_pos h3]
theorem chk_twice {ins : Int} {ps : List (Int × Int)} (h : btw ins 0 1000 = true) (h2 : ps.length ≤ 1000000) (h3 : stN ins ps ps.length = true) (h4 : dupN ps ps.length = true) : chkE ins ps = 6 := by
  unfold chkE; rw [if_neg (by simp [h]), if_neg (by omega), if_neg (by simp [h3]), if_pos h4]
theorem chk_ok {ins : Int} {ps : List (Int × Int)} (h : btw ins 0 1000 = true) (h2 : ps.length ≤ 1000000) (h3 : stN ins ps ps.length = true) (h4 : dupN ps ps.length = false) : chkE ins ps = 0 := by
  unfold chkE; rw [if_neg (by simp [h]), if_neg (by omega), if_neg (by simp [h3]), if_neg (by simp [h4])]
theorem chk_zero {ins : Int} {ps : List (Int × Int)} (h : chkE ins ps = 0) : 0 ≤ ins ∧ ins ≤ 1000 ∧ ps.length ≤ 1000000 ∧ stN ins ps ps.length = true ∧ dupN ps ps.length = false := by
  unfold chkE at h
  split at h
  · cases h
  split at h
  · cases h
  split at h
  · cases h
  split at h
  · cases h
  rename_i h1 h2 h3 h4
  have h1' := btw_true.1 (by simpa using h1)
  exact ⟨h1'.1, h1'.2, by omega, by simpa using h3, by simpa using h4⟩

end Go.Proofs.Ytabnimgpednhjab
