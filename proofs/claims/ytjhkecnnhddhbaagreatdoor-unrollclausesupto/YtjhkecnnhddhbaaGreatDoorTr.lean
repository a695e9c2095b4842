/- Clauses: the plain Check and Holds. -/
import Derived.Test.YtjhkecnnhddhbaaGreatDoorKq
namespace Go.Proofs.YtjhkecnnhddhbaaGreatDoor
open Go.RowKit Go.Maps Go.WideMaps
set_option maxRecDepth 100000
set_option maxRecDepth 100000
set_option maxRecDepth 100000

theorem row_five {vars : Int} {ns : List Int} (h1 : ns.length ≤ 200) {k : Nat} (hk : k < ns.length) (h : noneC vars ns[k] = true) : rowE vars ns = 5 := by
  unfold rowE
  rw [if_neg (by omega), if_pos (List.any_eq_true.2 ⟨_, List.getElem_mem hk, h⟩)]
theorem row_nil {vars : Int} {ns : List Int} (h1 : ns.length ≤ 200) (h : ∀ i (hi : i < ns.length), noneC vars ns[i] = false) : rowE vars ns = 0 := by
  unfold rowE
  have : ns.any (noneC vars) = false := by
    rw [List.any_eq_false]
    intro x hx
    obtain ⟨i, hi, rfl⟩ := List.getElem_of_mem hx
    rw [h i hi]; simp
  rw [if_neg (by omega), this]
  rfl

set_option maxHeartbeats 4000000 in
theorem checkClause_any (vars : Int) (h0 : 0 ≤ vars) (h1 : vars ≤ 200000) (p : Option Addr) (cap : Nat) (ns : List Int) (hl : ns.length ≤ maxLen) (w : World) (hI : IntsAt w p ns) :
    Calls Tryz.prog 55 #[.int .i64 vars, .slice p ns.length cap] w fun e w' => e = .returned (.int .i64 (rowE vars ns)) ∧ w' = w := by
  have HI := hide hI
  unfold maxLen at hl
  clear hI
  by_cases h2 : 200 < ns.length
  · have HX : Hid (rowE vars ns = 2) := by unfold rowE; rw [if_pos h2]; rfl
    have h2' : (200 : Int) < (ns.length : Int) := by omega
    go_enter Tryz.func55, Tryz.ntmps55
    go_wp2
    go_ret
    exact ⟨ret_int HX.out.symm, rfl⟩
  · have h2' : ¬ (200 : Int) < (ns.length : Int) := by omega
    go_enter Tryz.func55, Tryz.ntmps55
    go_wp2
    go_loopw [5] (fun i wr => ∃ k : Nat, k ≤ ns.length ∧ i = .int .i64 k ∧ Hid (∀ i (hi : i < ns.length), i < k → noneC vars ns[i] = false) ∧ wr = w) (fun i _ => ns.length - (intOf i).toNat)
    case atStart => exact ⟨0, Nat.zero_le _, rfl, fun i hi h => by omega, rfl⟩
    case round =>
      obtain ⟨k, hk, rfl, hno, rfl⟩ := hrel
      by_cases hlt : k < ns.length
      · obtain ⟨b, off, rfl, hc⟩ := HI.out (by omega)
        have hck := hc k hlt
        have hki : (k : Int) < (ns.length : Int) := by omega
        have HF := hide (row_five (vars := vars) (by omega) hlt)
        have HN : Hid (noneC vars ns[k] = false → ∀ i (hi : i < ns.length), i < k + 1 → noneC vars ns[i] = false) := by
          intro hf i hi h
          rcases Nat.lt_succ_iff_lt_or_eq.1 h with h1 | rfl
          · exact hno.out i hi h1
          · exact hf
        clear hc hno
        generalize ns[k] = x at *
        have HE : Hid (noneC vars x = (x == 0 || decide (x < -vars) || decide (vars < x))) := rfl
        by_cases hz : x = 0
        · have HX := hide (HF.out (by rw [HE.out]; simp [hz]))
          subst hz
          go_wp2
          go_ret
          exact ⟨ret_int HX.out.symm, rfl⟩
        · have hz' : (x == 0) = false := by simpa using hz
          by_cases hg : vars < x
          · have HX := hide (HF.out (by rw [HE.out]; simp [hg]))
            go_wp2
            go_ret
            exact ⟨ret_int HX.out.symm, rfl⟩
          · by_cases hs : x < -vars
            · have HX := hide (HF.out (by rw [HE.out]; simp [hs]))
              go_wp2
              go_ret
              exact ⟨ret_int HX.out.symm, rfl⟩
            · have HX := hide (HN.out (by rw [HE.out, hz']; simp [hs, hg]))
              go_wp2
              go_roundw
              case rel => exact ⟨k + 1, by omega, by go_num, HX, trivial⟩
              case measure => simp [intOf]; omega
      · have HX := hide (row_nil (vars := vars) (by omega) (fun i hi => hno.out i hi (by omega)))
        go_wp2
        go_ret
        exact ⟨ret_int HX.out.symm, rfl⟩

set_option maxHeartbeats 4000000 in
theorem checkClauses_any (vars : Int) (p : Option Addr) (cap : Nat) (rs : List Row) (hl : rs.length ≤ 8796093022208) (hin : ∀ r ∈ rs, r.ns.length ≤ maxLen) (w : World) (hC : ClAt w p rs) :
    Calls Tryz.prog 22 #[cval vars p rs.length cap] w fun e w' => e = .returned (.int .i64 (chkC vars (numsOf rs))) ∧ Below w.heap.size w w' := by
  have hB0 : Below w.heap.size w (w.alloc (.cells #[.int .i64 vars, .slice p rs.length cap] 30)) := bal (Below.refl _ _) _
  have hnl := numsOf_len rs
  have HE : Hid (chkC vars (numsOf rs) = if btw vars 0 200000 = false then 3 else if 800000 < rs.length then 2 else firstE vars (numsOf rs)) := by unfold chkC; rw [hnl]; rfl
  have HC := hide (hC.later hB0)
  have HIN := hide hin
  have HBT := hide (fun w => between_any vars 0 200000 w)
  clear hC hin
  generalize chkC vars (numsOf rs) = R at *
  cases hbt : btw vars 0 200000
  · rw [hbt] at HE HBT
    have HX : Hid (R = 3) := by rw [HE.out]; rfl
    go_enter Tryz.func22, Tryz.ntmps22
    go_wp2_with (go_at_call 21; refine (HBT.out _).mono ?_; rintro e w' ⟨rfl, rfl⟩)
    go_ret
    exact ⟨ret_int HX.out.symm, hB0⟩
  · obtain ⟨hv, hv2⟩ := btw_true.1 hbt
    rw [hbt, if_neg (by decide)] at HE
    rw [hbt] at HBT
    by_cases hm : 800000 < rs.length
    · have HX : Hid (R = 2) := by rw [HE.out, if_pos hm]; rfl
      have hm' : (800000 : Int) < (rs.length : Int) := by omega
      go_enter Tryz.func22, Tryz.ntmps22
      go_wp2_with (go_at_call 21; refine (HBT.out _).mono ?_; rintro e w' ⟨rfl, rfl⟩)
      go_ret
      exact ⟨ret_int HX.out.symm, hB0⟩
    · rw [if_neg hm] at HE
      have hm' : ¬ (800000 : Int) < (rs.length : Int) := by omega
      have b0 : (w.alloc (.cells #[.int .i64 vars, .slice p rs.length cap] 30)).cell? ⟨w.heap.size, 0, none⟩ = some (.int .i64 vars) := by simp [go_sem]
      have b1 : (w.alloc (.cells #[.int .i64 vars, .slice p rs.length cap] 30)).cell? ⟨w.heap.size, 1, none⟩ = some (.slice p rs.length cap) := by simp [go_sem]
      have HB0 := hide hB0
      clear hB0 hbt
      go_enter Tryz.func22, Tryz.ntmps22
      go_wp2_with (go_at_call 21; refine (HBT.out _).mono ?_; rintro e w' ⟨rfl, rfl⟩)
      generalize w.alloc (.cells #[.int .i64 vars, .slice p rs.length cap] 30) = w0 at *
      go_loopw [3] (fun i wr => ∃ k : Nat, k ≤ rs.length ∧ i = .int .i64 k ∧ Hid (firstE vars (numsOf rs) = firstE vars ((numsOf rs).drop k)) ∧ Below w0.heap.size w0 wr) (fun i _ => rs.length - (intOf i).toNat)
      case atStart => exact ⟨0, Nat.zero_le _, rfl, by simp [Hid], Below.refl _ _⟩
      case round =>
        obtain ⟨k, hk, rfl, hf, hbw⟩ := hrel
        have c0 := cell_later hbw b0
        have c1 := cell_later hbw b1
        have HBW := hide (bthen HB0.out hbw)
        by_cases hlt : k < rs.length
        · obtain ⟨b, off, rfl, hc⟩ := (HC.out.rows.later hbw) (by omega)
          have hck := hc k hlt
          have hki : (k : Int) < (rs.length : Int) := by omega
          have hrk : (numsOf rs)[k]'(by omega) = rs[k].ns := by simp [numsOf]
          have HD := hide (firstE_drop vars (numsOf rs) k (by omega))
          rw [hrk] at HD
          have HIR := hide ((HC.out.inn.later hbw) rs[k] (List.getElem_mem hlt))
          have hnk := HIN.out rs[k] (List.getElem_mem hlt)
          clear hc hrk
          generalize rs[k] = r at *
          obtain ⟨ra, rn, rc⟩ := r
          unfold Row.v at hck
          simp only at *
          have HCL := hide (fun (w' : World) (hb : Below wr.heap.size wr w') => checkClause_any vars hv hv2 ra rc rn hnk w' (HIR.out.later hb))
          have hbd : Below wr.heap.size wr wr.drew := (Below.refl _ wr).drew
          have HB2 := hide (bthen hbw hbd)
          clear hnk hbw
          by_cases hz : rowE vars rn = 0
          · rw [hz] at HCL HD
            have HNX : Hid (firstE vars (numsOf rs) = firstE vars ((numsOf rs).drop (k + 1))) := by rw [hf.out, HD.out]; rfl
            clear HD hf hz
            go_wp2
            go_region_held3 (fun w' => w'.cell? ⟨w.heap.size, 0, none⟩ = some (.int .i64 vars) ∧ w'.cell? ⟨w.heap.size, 1, none⟩ = some (.slice (some ⟨b, off, none⟩) rs.length cap) ∧ w'.cell? ⟨b, off + k, none⟩ = some (.slice ra rn.length rc))
              (go_keep)
              ((go_at_call 55; refine (HCL.out _ hbd).mono ?_; rintro e w' ⟨rfl, rfl⟩))
            all_goals
              go_wp2
              go_roundw
              case rel => exact ⟨k + 1, by omega, by go_num, HNX, HB2.out⟩
              case measure => simp [intOf]; omega
          · have hz' : (rowE vars rn != 0) = true := by simpa using hz
            have HX : Hid (R = rowE vars rn) := by rw [HE.out, hf.out, HD.out, if_pos hz]; rfl
            clear HD hf hz HE
            generalize rowE vars rn = Z at *
            go_wp2
            go_region_held3 (fun w' => w'.cell? ⟨w.heap.size, 0, none⟩ = some (.int .i64 vars) ∧ w'.cell? ⟨w.heap.size, 1, none⟩ = some (.slice (some ⟨b, off, none⟩) rs.length cap) ∧ w'.cell? ⟨b, off + k, none⟩ = some (.slice ra rn.length rc))
              (go_keep)
              ((go_at_call 55; refine (HCL.out _ hbd).mono ?_; rintro e w' ⟨rfl, rfl⟩))
            all_goals
              go_wp2
              go_ret
              exact ⟨ret_int HX.out.symm, HBW.out.drew⟩
        · have HX : Hid (R = 0) := by
            rw [HE.out, hf.out, List.drop_of_length_le (by omega)]; rfl
          clear HE hf
          go_wp2
          go_ret
          exact ⟨ret_int HX.out.symm, HBW.out⟩

theorem any_take (f : Int → Bool) (l : List Int) (k : Nat) (h : k < l.length) : (l.take (k + 1)).any f = ((l.take k).any f || f l[k]) := by
  rw [List.take_succ_eq_append_getElem h, List.any_append]
  simp

end Go.Proofs.YtjhkecnnhddhbaaGreatDoor
