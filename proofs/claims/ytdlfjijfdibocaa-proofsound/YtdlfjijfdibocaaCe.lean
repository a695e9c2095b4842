/- Clauses: Check, Holds. -/
import Derived.Test.YtdlfjijfdibocaaCd
namespace Go.Proofs.Ytdlfjijfdibocaa
open Go.RowKit Go.Maps Go.WideMaps
set_option maxRecDepth 100000

/-- Is a number none of the variables', with its sign or without? -/
def noneC (vars n : Int) : Bool := n == 0 || decide (n < -vars) || decide (vars < n)
/-- What is said of one clause. -/
def rowE (vars : Int) (ns : List Int) : Int := if 200 < ns.length then 2 else if ns.any (noneC vars) = true then 5 else 0
/-- What is said of the first clause of which something is. -/
def firstE (vars : Int) : List (List Int) → Int
  | [] => 0
  | ns :: t => if rowE vars ns ≠ 0 then rowE vars ns else firstE vars t
/-- What is said of clauses. -/
def chkC (vars : Int) (L : List (List Int)) : Int := if btw vars 0 200000 = false then 3 else if 800000 < L.length then 2 else firstE vars L

theorem enter58 (args : Array Value) (w : World) : (callFunc 27 args).run Try.prog w = .ok (.enter 27 args) w := by kernel_rfl

set_option maxHeartbeats 1000000 in
theorem check1_any (n vars : Int) (h0 : 0 ≤ vars) (h1 : vars ≤ 200000) (B : Nat) (w : World) (hB : w.cell? ⟨B, 0, none⟩ = some (.int .i64 vars)) :
    Calls Try.prog 27 #[.int .i64 n, .pointer (some ⟨B, 0, none⟩)] w fun r w' => r = .returned (.bool (noneC vars n)) ∧ Below w.heap.size w w' := by
  have HE : Hid (noneC vars n = (n == 0 || decide (n < -vars) || decide (vars < n))) := rfl
  generalize noneC vars n = R at *
  by_cases hz : n = 0
  · have HX : Hid (R = true) := by rw [HE.out]; simp [hz, Hid]
    subst hz
    go_enter Try.func27, Try.ntmps27
    go_wp2
    go_ret
    exact ⟨ret_bool HX.out.symm, Below.refl _ _⟩
  · have hz' : (n == 0) = false := by simpa using hz
    by_cases hl : n < -vars
    · have HX : Hid (R = true) := by rw [HE.out]; simp [hl, Hid]
      go_enter Try.func27, Try.ntmps27
      go_wp2
      go_ret
      exact ⟨ret_bool HX.out.symm, Below.refl _ _⟩
    · have HX : Hid (R = decide (vars < n)) := by rw [HE.out, hz']; simp [hl, Hid]
      go_enter Try.func27, Try.ntmps27
      go_wp2
      go_ret
      exact ⟨ret_bool HX.out.symm, Below.refl _ _⟩

theorem firstE_drop (vars : Int) (L : List (List Int)) (k : Nat) (h : k < L.length) : firstE vars (L.drop k) = if rowE vars L[k] ≠ 0 then rowE vars L[k] else firstE vars (L.drop (k + 1)) := by
  rw [List.drop_eq_getElem_cons h]
  rfl

set_option maxRecDepth 100000 in
set_option maxHeartbeats 4000000 in
theorem checkC_any (vars : Int) (p : Option Addr) (cap : Nat) (rs : List Row) (hl : rs.length ≤ 100000000000000) (hin : ∀ r ∈ rs, r.ns.length ≤ maxLen) (w : World) (hC : ClAt w p rs) :
    Calls Try.prog 10 #[cval vars p rs.length cap] w fun e w' => e = .returned (.int .i64 (chkC vars (numsOf rs))) ∧ Below w.heap.size w w' := by
  have hB0 : Below w.heap.size w (w.alloc (.cells #[.int .i64 vars, .slice p rs.length cap] 24)) := bal (Below.refl _ _) _
  have hnl := numsOf_len rs
  have HE : Hid (chkC vars (numsOf rs) = if btw vars 0 200000 = false then 3 else if 800000 < rs.length then 2 else firstE vars (numsOf rs)) := by unfold chkC; rw [hnl]; rfl
  have HC := hide (hC.later hB0)
  have HIN := hide hin
  clear hC hin
  generalize chkC vars (numsOf rs) = R at *
  by_cases hv : 0 ≤ vars
  · by_cases hv2 : vars ≤ 200000
    · have hbt : btw vars 0 200000 = true := btw_true.2 ⟨hv, hv2⟩
      rw [hbt, if_neg (by decide)] at HE
      have hv' : ¬ vars < 0 := by omega
      have hv2' : ¬ 200000 < vars := by omega
      by_cases hm : 800000 < rs.length
      · have HX : Hid (R = 2) := by rw [HE.out, if_pos hm]; rfl
        have hm' : (800000 : Int) < (rs.length : Int) := by omega
        go_enter Try.func10, Try.ntmps10
        go_wp2
        go_ret
        exact ⟨ret_int HX.out.symm, hB0⟩
      · rw [if_neg hm] at HE
        have hm' : ¬ (800000 : Int) < (rs.length : Int) := by omega
        have b0 : (w.alloc (.cells #[.int .i64 vars, .slice p rs.length cap] 24)).cell? ⟨w.heap.size, 0, none⟩ = some (.int .i64 vars) := by simp [go_sem]
        have HB0 := hide hB0
        clear hB0 hbt
        go_enter Try.func10, Try.ntmps10
        go_wp2
        generalize w.alloc (.cells #[.int .i64 vars, .slice p rs.length cap] 24) = w0 at *
        go_loopw [22] (fun i wr => ∃ k : Nat, k ≤ rs.length ∧ i = .int .i64 k ∧ Hid (firstE vars (numsOf rs) = firstE vars ((numsOf rs).drop k)) ∧ Below w0.heap.size w0 wr) (fun i _ => rs.length - (intOf i).toNat)
        case atStart => exact ⟨0, Nat.zero_le _, rfl, by simp [Hid], Below.refl _ _⟩
        case round =>
          obtain ⟨k, hk, rfl, hf, hbw⟩ := hrel
          have b1 := cell_later hbw b0
          have HBW := hide (bthen HB0.out hbw)
          by_cases hlt : k < rs.length
          · obtain ⟨b, off, rfl, hc⟩ := (HC.out.rows.later hbw) (by omega)
            have hck := hc k hlt
            have hki : (k : Int) < (rs.length : Int) := by omega
            have hrk : (numsOf rs)[k]'(by omega) = rs[k].ns := by simp [numsOf]
            have HD := hide (firstE_drop vars (numsOf rs) k (by omega))
            rw [hrk] at HD
            have HIR := hide ((HC.out.inn.later hbw) rs[k] (List.getElem_mem hlt))
            have hnk := HIN.out rs[k] (List.getElem_mem hlt)
            unfold maxLen at hnk
            clear hc hrk
            generalize rs[k] = r at *
            obtain ⟨ra, rn, rc⟩ := r
            unfold Row.v at hck
            simp only at *
            by_cases h2 : 200 < rn.length
            · have HX : Hid (R = 2) := by
                rw [HE.out, hf.out, HD.out]
                have : rowE vars rn = 2 := by unfold rowE; rw [if_pos h2]
                rw [this]; rfl
              have h2' : (200 : Int) < (rn.length : Int) := by omega
              clear HE HD hf
              go_wp2
              go_ret
              exact ⟨ret_int HX.out.symm, HBW.out⟩
            · have h2' : ¬ (200 : Int) < (rn.length : Int) := by omega
              have HRE : Hid (rowE vars rn = if rn.any (noneC vars) = true then 5 else 0) := by unfold rowE; rw [if_neg h2]; rfl
              have HCF := hide (containsFunc_any 27 (.pointer (some ⟨w.heap.size, 0, none⟩)) (noneC vars) rn ra rc wr (by unfold maxLen; omega) HIR.out enter58 (fun wq hb i hi => check1_any _ _ hv hv2 _ _ (cell_later hb b1)))
              cases hany : rn.any (noneC vars)
              · rw [hany] at HCF HRE
                have HNX : Hid (firstE vars (numsOf rs) = firstE vars ((numsOf rs).drop (k + 1))) := by
                  rw [hf.out, HD.out, HRE.out]; rfl
                clear HD hf hany HRE
                go_wp2_with fail
                refine HCF.out.mono ?_
                rintro e w2 ⟨rfl, hb2⟩
                have HB2 := hide (bthen hbw hb2)
                clear hb2
                go_wp2
                go_roundw
                case rel => exact ⟨k + 1, by omega, by go_num, HNX, HB2.out⟩
                case measure => simp [intOf]; omega
              · rw [hany] at HCF HRE
                have HX : Hid (R = 5) := by rw [HE.out, hf.out, HD.out, HRE.out]; rfl
                clear HD hf hany HRE HE
                go_wp2_with fail
                refine HCF.out.mono ?_
                rintro e w2 ⟨rfl, hb2⟩
                have HB2 := hide (bthen HBW.out hb2)
                clear hb2
                go_wp2
                go_ret
                exact ⟨ret_int HX.out.symm, HB2.out⟩
          · have HX : Hid (R = 0) := by
              rw [HE.out, hf.out, List.drop_of_length_le (by omega)]; rfl
            clear HE hf
            go_wp2
            go_ret
            exact ⟨ret_int HX.out.symm, HBW.out⟩
    · have hbt : btw vars 0 200000 = false := btw_false.2 (by omega)
      have HX : Hid (R = 3) := by rw [HE.out, if_pos hbt]; rfl
      have hv' : ¬ vars < 0 := by omega
      have hv2' : 200000 < vars := by omega
      go_enter Try.func10, Try.ntmps10
      go_wp2
      go_ret
      exact ⟨ret_int HX.out.symm, hB0⟩
  · have hbt : btw vars 0 200000 = false := btw_false.2 (by omega)
    have HX : Hid (R = 3) := by rw [HE.out, if_pos hbt]; rfl
    have hv' : vars < 0 := by omega
    go_enter Try.func10, Try.ntmps10
    go_wp2
    go_ret
    exact ⟨ret_int HX.out.symm, hB0⟩

end Go.Proofs.Ytdlfjijfdibocaa
