/- Clauses: the plain Check and Holds. -/
import Derived.Test.YtabnimgpednhjabCg
import Derived.Test.YtabnimgpednhjabPu
namespace Go.Proofs.Ytabnimgpednhjab
open Go.RowKit Go.Maps Go.WideMaps
set_option maxRecDepth 100000
set_option maxRecDepth 100000
set_option maxRecDepth 100000

theorem row_five {vars : Int} {ns : List Int} (h1 : ns.length ≤ 200) {k : Nat} (hk : k < ns.length) (h : noneC vars ns[k] = true) : rowE vars ns = 5 := by
  unfold rowE
  rw [if_neg (by omega), if_pos (List.any_eq_true.2 ⟨_, List.getElem_mem hk, h⟩)]
theorem row_nil {vars : Int} {ns : List Int} (h1 : ns.length ≤ 200) (h : ∀ i (hi : i < ns.length), noneC vars ns[i] = false) : rowE vars ns = 0 := by
  unfold rowE
  have : ns.any (noneC vars) = false := by
    rw [List.any_eq_false]
    intro x hx
    obtain ⟨i, hi, rfl⟩ := List.getElem_of_mem hx
    rw [h i hi]; simp
  rw [if_neg (by omega), this]
  rfl

set_option maxHeartbeats 4000000 in
theorem checkClause_any (vars : Int) (h0 : 0 ≤ vars) (h1 : vars ≤ 200000) (p : Option Addr) (cap : Nat) (ns : List Int) (hl : ns.length ≤ maxLen) (w : World) (hI : IntsAt w p ns) :
    Calls Try.prog 28 #[.int .i64 vars, .slice p ns.length cap] w fun e w' => e = .returned (.int .i64 (rowE vars ns)) ∧ w' = w := by
  have HI := hide hI
  unfold maxLen at hl
  clear hI
  by_cases h2 : 200 < ns.length
  · have HX : Hid (rowE vars ns = 2) := by unfold rowE; rw [if_pos h2]; rfl
    have h2' : (200 : Int) < (ns.length : Int) := by omega
    go_enter Try.func28, Try.ntmps28
    go_wp2
    go_ret
    exact ⟨ret_int HX.out.symm, rfl⟩
  · have h2' : ¬ (200 : Int) < (ns.length : Int) := by omega
    go_enter Try.func28, Try.ntmps28
    go_wp2
    go_loopw [5] (fun i wr => ∃ k : Nat, k ≤ ns.length ∧ i = .int .i64 k ∧ Hid (∀ i (hi : i < ns.length), i < k → noneC vars ns[i] = false) ∧ wr = w) (fun i _ => ns.length - (intOf i).toNat)
    case atStart => exact ⟨0, Nat.zero_le _, rfl, fun i hi h => by omega, rfl⟩
    case round =>
      obtain ⟨k, hk, rfl, hno, rfl⟩ := hrel
      by_cases hlt : k < ns.length
      · obtain ⟨b, off, rfl, hc⟩ := HI.out (by omega)
        have hck := hc k hlt
        have hki : (k : Int) < (ns.length : Int) := by omega
        have HF := hide (row_five (vars := vars) (by omega) hlt)
        have HN : Hid (noneC vars ns[k] = false → ∀ i (hi : i < ns.length), i < k + 1 → noneC vars ns[i] = false) := by
          intro hf i hi h
          rcases Nat.lt_succ_iff_lt_or_eq.1 h with h1 | rfl
          · exact hno.out i hi h1
          · exact hf
        clear hc hno
        generalize ns[k] = x at *
        have HE : Hid (noneC vars x = (x == 0 || decide (x < -vars) || decide (vars < x))) := rfl
        by_cases hz : x = 0
        · have HX := hide (HF.out (by rw [HE.out]; simp [hz]))
          subst hz
          go_wp2
          go_ret
          exact ⟨ret_int HX.out.symm, rfl⟩
        · have hz' : (x == 0) = false := by simpa using hz
          by_cases hg : vars < x
          · have HX := hide (HF.out (by rw [HE.out]; simp [hg]))
            go_wp2
            go_ret
            exact ⟨ret_int HX.out.symm, rfl⟩
          · by_cases hs : x < -vars
            · have HX := hide (HF.out (by rw [HE.out]; simp [hs]))
              go_wp2
              go_ret
              exact ⟨ret_int HX.out.symm, rfl⟩
            · have HX := hide (HN.out (by rw [HE.out, hz']; simp [hs, hg]))
              go_wp2
              go_roundw
              case rel => exact ⟨k + 1, by omega, by go_num, HX, trivial⟩
              case measure => simp [intOf]; omega
      · have HX := hide (row_nil (vars := vars) (by omega) (fun i hi => hno.out i hi (by omega)))
        go_wp2
        go_ret
        exact ⟨ret_int HX.out.symm, rfl⟩

set_option maxHeartbeats 4000000 in
theorem checkClauses_any (vars : Int) (p : Option Addr) (cap : Nat) (rs : List Row) (hl : rs.length ≤ 8796093022208) (hin : ∀ r ∈ rs, r.ns.length ≤ maxLen) (w : World) (hC : ClAt w p rs) :
    Calls Try.prog 27 #[cval vars p rs.length cap] w fun e w' => e = .returned (.int .i64 (chkC vars (numsOf rs))) ∧ Below w.heap.size w w' := by
  have hB0 : Below w.heap.size w (w.alloc (.cells #[.int .i64 vars, .slice p rs.length cap] 47)) := bal (Below.refl _ _) _
  have hnl := numsOf_len rs
  have HE : Hid (chkC vars (numsOf rs) = if btw vars 0 200000 = false then 3 else if 800000 < rs.length then 2 else firstE vars (numsOf rs)) := by unfold chkC; rw [hnl]; rfl
  have HC := hide (hC.later hB0)
  have HIN := hide hin
  have HBT := hide (fun w => between_any vars 0 200000 w)
  clear hC hin
  generalize chkC vars (numsOf rs) = R at *
  cases hbt : btw vars 0 200000
  · rw [hbt] at HE HBT
    have HX : Hid (R = 3) := by rw [HE.out]; rfl
    go_enter Try.func27, Try.ntmps27
    go_wp2_with (go_at_call 34; refine (HBT.out _).mono ?_; rintro e w' ⟨rfl, rfl⟩)
    go_ret
    exact ⟨ret_int HX.out.symm, hB0⟩
  · obtain ⟨hv, hv2⟩ := btw_true.1 hbt
    rw [hbt, if_neg (by decide)] at HE
    rw [hbt] at HBT
    by_cases hm : 800000 < rs.length
    · have HX : Hid (R = 2) := by rw [HE.out, if_pos hm]; rfl
      have hm' : (800000 : Int) < (rs.length : Int) := by omega
      go_enter Try.func27, Try.ntmps27
      go_wp2_with (go_at_call 34; refine (HBT.out _).mono ?_; rintro e w' ⟨rfl, rfl⟩)
      go_ret
      exact ⟨ret_int HX.out.symm, hB0⟩
    · rw [if_neg hm] at HE
      have hm' : ¬ (800000 : Int) < (rs.length : Int) := by omega
      have b0 : (w.alloc (.cells #[.int .i64 vars, .slice p rs.length cap] 47)).cell? ⟨w.heap.size, 0, none⟩ = some (.int .i64 vars) := by simp [go_sem]
      have b1 : (w.alloc (.cells #[.int .i64 vars, .slice p rs.length cap] 47)).cell? ⟨w.heap.size, 1, none⟩ = some (.slice p rs.length cap) := by simp [go_sem]
      have HB0 := hide hB0
      clear hB0 hbt
      go_enter Try.func27, Try.ntmps27
      go_wp2_with (go_at_call 34; refine (HBT.out _).mono ?_; rintro e w' ⟨rfl, rfl⟩)
      generalize w.alloc (.cells #[.int .i64 vars, .slice p rs.length cap] 47) = w0 at *
      go_loopw [3] (fun i wr => ∃ k : Nat, k ≤ rs.length ∧ i = .int .i64 k ∧ Hid (firstE vars (numsOf rs) = firstE vars ((numsOf rs).drop k)) ∧ Below w0.heap.size w0 wr) (fun i _ => rs.length - (intOf i).toNat)
      case atStart => exact ⟨0, Nat.zero_le _, rfl, by simp [Hid], Below.refl _ _⟩
      case round =>
        obtain ⟨k, hk, rfl, hf, hbw⟩ := hrel
        have c0 := cell_later hbw b0
        have c1 := cell_later hbw b1
        have HBW := hide (bthen HB0.out hbw)
        by_cases hlt : k < rs.length
        · obtain ⟨b, off, rfl, hc⟩ := (HC.out.rows.later hbw) (by omega)
          have hck := hc k hlt
          have hki : (k : Int) < (rs.length : Int) := by omega
          have hrk : (numsOf rs)[k]'(by omega) = rs[k].ns := by simp [numsOf]
          have HD := hide (firstE_drop vars (numsOf rs) k (by omega))
          rw [hrk] at HD
          have HIR := hide ((HC.out.inn.later hbw) rs[k] (List.getElem_mem hlt))
          have hnk := HIN.out rs[k] (List.getElem_mem hlt)
          clear hc hrk
          generalize rs[k] = r at *
          obtain ⟨ra, rn, rc⟩ := r
          unfold Row.v at hck
          simp only at *
          have HCL := hide (fun (w' : World) (hb : Below wr.heap.size wr w') => checkClause_any vars hv hv2 ra rc rn hnk w' (HIR.out.later hb))
          have hbd : Below wr.heap.size wr wr.drew := (Below.refl _ wr).drew
          have HB2 := hide (bthen hbw hbd)
          clear hnk hbw
          by_cases hz : rowE vars rn = 0
          · rw [hz] at HCL HD
            have HNX : Hid (firstE vars (numsOf rs) = firstE vars ((numsOf rs).drop (k + 1))) := by rw [hf.out, HD.out]; rfl
            clear HD hf hz
            go_wp2
            go_region_held3 (fun w' => w'.cell? ⟨w.heap.size, 0, none⟩ = some (.int .i64 vars) ∧ w'.cell? ⟨w.heap.size, 1, none⟩ = some (.slice (some ⟨b, off, none⟩) rs.length cap) ∧ w'.cell? ⟨b, off + k, none⟩ = some (.slice ra rn.length rc))
              (go_keep)
              ((go_at_call 28; refine (HCL.out _ hbd).mono ?_; rintro e w' ⟨rfl, rfl⟩))
            all_goals
              go_wp2
              go_roundw
              case rel => exact ⟨k + 1, by omega, by go_num, HNX, HB2.out⟩
              case measure => simp [intOf]; omega
          · have hz' : (rowE vars rn != 0) = true := by simpa using hz
            have HX : Hid (R = rowE vars rn) := by rw [HE.out, hf.out, HD.out, if_pos hz]; rfl
            clear HD hf hz HE
            generalize rowE vars rn = Z at *
            go_wp2
            go_region_held3 (fun w' => w'.cell? ⟨w.heap.size, 0, none⟩ = some (.int .i64 vars) ∧ w'.cell? ⟨w.heap.size, 1, none⟩ = some (.slice (some ⟨b, off, none⟩) rs.length cap) ∧ w'.cell? ⟨b, off + k, none⟩ = some (.slice ra rn.length rc))
              (go_keep)
              ((go_at_call 28; refine (HCL.out _ hbd).mono ?_; rintro e w' ⟨rfl, rfl⟩))
            all_goals
              go_wp2
              go_ret
              exact ⟨ret_int HX.out.symm, HBW.out.drew⟩
        · have HX : Hid (R = 0) := by
            rw [HE.out, hf.out, List.drop_of_length_le (by omega)]; rfl
          clear HE hf
          go_wp2
          go_ret
          exact ⟨ret_int HX.out.symm, HBW.out⟩

theorem any_take (f : Int → Bool) (l : List Int) (k : Nat) (h : k < l.length) : (l.take (k + 1)).any f = ((l.take k).any f || f l[k]) := by
  rw [List.take_succ_eq_append_getElem h, List.any_append]
  simp

end Go.Proofs.Ytabnimgpednhjab

namespace Go.Proofs.Ytabnimgpednhjab.Pf
open Go.RowKit Go.Maps Go.WideMaps
set_option maxRecDepth 100000

/-- The error of Follows. -/
def folE (vars : Int) (L : List (List Int)) (c : List Int) : Int := if chkC vars L ≠ 0 then chkC vars L else rowE vars c
/-- What Follows leaves. -/
def FwOut (w : World) (vars : Int) (L : List (List Int)) (c : List Int) (e : Ending) (w' : World) : Prop :=
  ∃ b, e = .returned (.tuple #[.bool b, .int .i64 (folE vars L c)]) ∧ (b = true ↔ folE vars L c = 0 ∧ Confl L (negs c)) ∧ Below w.heap.size w w'
theorem chk_one {vars : Int} {L : List (List Int)} (h : chkC vars L = 0) (c : List Int) : chkC vars [c] = rowE vars c := by
  unfold chkC at *
  by_cases hb : btw vars 0 200000 = false
  · rw [if_pos hb] at h; cases h
  · rw [if_neg hb]
    simp only [List.length_singleton, Nat.not_lt.2 (show 1 ≤ 800000 by omega), if_false]
    have := firstE_drop vars [c] 0 (by simp)
    simp only [List.drop_zero, List.getElem_cons_zero] at this
    rw [this]
    split
    · rfl
    · rename_i h1
      have h2 : rowE vars c = 0 := Classical.not_not.1 h1
      rw [h2]; rfl
theorem numsOf_map (rs : List Row) : numsOf rs = rs.map (·.ns) := rfl
set_option maxHeartbeats 4000000 in
theorem followsW_any (vars : Int) (p q : Option Addr) (cap cq : Nat) (rs : List Row) (c : List Int) (hl : rs.length ≤ 8796093022208) (hin : ∀ r ∈ rs, r.ns.length ≤ maxLen) (hcl : c.length ≤ maxLen) (w : World) (hC : ClAt w p rs) (hI : IntsAt w q c) :
    Calls Try.prog 26 #[cval vars p rs.length cap, .slice q c.length cq] w (FwOut w vars (numsOf rs) c) := by
  have HIN := hide hin
  have HCL := hide hcl
  have HC := hide hC
  have HI := hide hI
  obtain ⟨n, hn⟩ : ∃ n, rs.length = n := ⟨_, rfl⟩
  obtain ⟨m, hm⟩ : ∃ m, c.length = m := ⟨_, rfl⟩
  have hB1 : Below w.heap.size w (w.alloc (.cells #[.int .i64 vars, .slice p n cap] 47)) := bal (Below.refl _ _) _
  have x0 : (w.alloc (.cells #[.int .i64 vars, .slice p n cap] 47)).cell? ⟨w.heap.size, 0, none⟩ = some (.int .i64 vars) := by simp [go_sem]
  have x1 : (w.alloc (.cells #[.int .i64 vars, .slice p n cap] 47)).cell? ⟨w.heap.size, 1, none⟩ = some (.slice p n cap) := by simp [go_sem]
  have HCK := hide (checkC_any vars p cap rs hl hin _ (hC.later hB1))
  rw [hn] at HCK
  rw [hn, hm]
  have HB1 := hide hB1
  have HN := hide (And.intro hn hm)
  clear hin hcl hC hI hn hm hB1
  go_enter Try.func26, Try.ntmps26
  go_upto_region 1 with fail
  generalize hw1 : w.alloc (.cells #[.int .i64 vars, .slice p n cap] 47) = w1 at *
  have hsz : w.heap.size < w1.heap.size := by rw [← hw1]; simp
  clear hw1
  generalize hbx : w.heap.size = bx at *
  go_upto_region 2 with (go_at_call 45; refine HCK.out.mono ?_; rintro e w2 ⟨rfl, hb2⟩)
  have HB2 := hide hb2
  have y0 := cell_later hb2 x0
  have y1 := cell_later hb2 x1
  clear hb2 x0 x1
  have HB12 := hide (HB1.out.trans (HB2.out.mono (by have := HB1.out.size; omega)))
  have hbs : bx < w2.heap.size := by have := HB2.out.size; omega
  have HFE : Hid (∀ E, chkC vars (numsOf rs) = E → E ≠ 0 → folE vars (numsOf rs) c = E) := fun E h1 h2 => by unfold folE; rw [h1, if_pos h2]
  by_cases he : chkC vars (numsOf rs) = 0
  · rw [he]
    have HHE := hide he
    have hm1 := HN.out.2
    have hC3 : ClAt (w2.alloc (.cells #[.slice q m cq] 36)) (some ⟨w2.heap.size, 0, none⟩) [⟨q, c, cq⟩] := by
      refine ⟨fun _ => ⟨w2.heap.size, 0, rfl, fun i hi => ?_⟩, fun r hr => ?_⟩
      · obtain rfl : i = 0 := by simp at hi; exact hi
        simp only [List.getElem_cons_zero, Row.v, hm1]
        simp [go_sem]
      · obtain rfl : r = ⟨q, c, cq⟩ := by simpa using hr
        exact (HI.out.later (by rw [hbx]; exact HB12.out)).later (bal (Below.refl _ _) _)
    have hr1 : ∀ r ∈ [(⟨q, c, cq⟩ : Row)], r.ns.length ≤ maxLen := fun r hr => by
      obtain rfl : r = ⟨q, c, cq⟩ := by simpa using hr
      exact HCL.out
    have HCK2 := hide (checkC_any vars (some ⟨w2.heap.size, 0, none⟩) 1 [⟨q, c, cq⟩] (by simp) hr1 _ hC3)
    simp only [List.length_singleton] at HCK2
    rw [show chkC vars (numsOf [⟨q, c, cq⟩]) = rowE vars c from chk_one he c] at HCK2
    have HF3 : Hid (folE vars (numsOf rs) c = rowE vars c) := by unfold Hid folE; rw [he, if_neg (by simp)]
    have hb3 : Below w2.heap.size w2 (w2.alloc (.cells #[.slice q m cq] 36)) := bal (Below.refl _ _) _
    have HB3 := hide hb3
    have z0 := cell_later hb3 y0
    have z1 := cell_later hb3 y1
    clear hm1 hC3 hb3 HCK hr1
    go_upto_region 5 with (go_at_call 45; refine HCK2.out.mono ?_; rintro e w4 ⟨rfl, hb4⟩)
    have u0 := cell_later hb4 z0
    have u1 := cell_later hb4 z1
    have HB4 : Hid (Below bx w w4) := (HB12.out.trans (HB3.out.mono (by omega))).trans (hb4.mono (by have := HB3.out.size; omega))
    clear hb4 z0 z1 y0 y1 HCK2
    by_cases he2 : rowE vars c = 0
    · rw [he2]
      obtain ⟨v1, v2, v3, v4⟩ := chkC_zero HHE.out
      rw [numsOf_len] at v3
      obtain ⟨v5, v6⟩ := row_zero he2
      have hx : ∀ r ∈ rs, r.ns.length ≤ 200 ∧ ∀ x ∈ r.ns, Num vars x := fun r hr => v4 r.ns (List.mem_map.2 ⟨r, hr, rfl⟩)
      have HNW := hide (new_any vars v2 vars p cap rs v3 hx w4 (HC.out.later (by rw [hbx]; exact HB4.out)))
      rw [HN.out.1] at HNW
      have HV := hide (And.intro v2 (And.intro v3 (And.intro v5 v6)))
      have HE2 := hide he2
      clear v1 v2 v3 v4 v5 v6 hx he2
      go_upto_region 7 with fail
      go_wp2_with fail
      refine HNW.out.mono ?_
      rintro e w5 ⟨R, B, X, nS, nW, rfl, hb5, hB5, hX5, hI5, hl5, hs5, hc5, hn1, hn2⟩
      have hI6 : IntsAt w5 q c := (HI.out.later (by rw [hbx]; exact HB4.out)).later hB5
      have hsz4 : bx ≤ w4.heap.size := by have := HB4.out.size; omega
      have HFW := hide (follows_any w5 X R nS nW B hb5 vars _ hI5 hl5 hs5 HV.out.1 (by rw [List.length_map] at hc5; have := HV.out.2.1; omega) (by omega) (by omega) q cq c HV.out.2.2.1 HV.out.2.2.2 hI6 ?hq)
      case hq =>
        intro h0 a ha hXa
        obtain ⟨b, off, hqe, hcell⟩ := (HI.out.later (by rw [hbx]; exact HB4.out) : IntsAt w4 q c) h0
        rw [ha] at hqe
        injection hqe with hqe
        subst hqe
        have h1 := World.block_lt_of_cell? _ _ (hcell 0 h0)
        have h2 := hX5 _ hXa
        simp only at h1 h2
        omega
      rw [HN.out.2] at HFW
      have HB5 : Hid (Below bx w w5) := HB4.out.trans (hB5.mono hsz4)
      have HX5 := hide hX5
      clear hb5 hB5 hX5 hI5 hl5 hs5 hc5 hn1 hn2 hI6 HNW
      go_wp2_with fail
      refine HFW.out.mono ?_
      rintro e w6 ⟨b, B', X', nS', nW', rfl, hbc, hb6, hF6, _⟩
      have HB6 : Hid (Below bx w w6) := HB5.out.trans (hF6.below (base := bx) (by have := HB5.out.size; omega) (fun g hg => by have := HX5.out g hg; omega))
      have HBC := hide hbc
      clear hb6 hF6 hbc HFW
      go_wp2_with fail
      go_ret2
      refine ⟨b, by rw [HF3.out, HE2.out]; rfl, ⟨fun e => ⟨HF3.out.trans HE2.out, HBC.out.1 e⟩, fun e => HBC.out.2 e.2⟩, by rw [hbx]; exact HB6.out⟩
    · have heb : (rowE vars c == 0) = false := by simpa using he2
      have HE2 := hide he2
      generalize rowE vars c = E at *
      clear he2
      go_wp2_with fail
      go_ret2
      exact ⟨false, by rw [HF3.out]; rfl, ⟨(fun e => by cases e), fun e => absurd (HF3.out.symm.trans e.1) HE2.out⟩, by rw [hbx]; exact HB4.out⟩
  · have heb : (chkC vars (numsOf rs) == 0) = false := by simpa using he
    have HF3 := hide (HFE.out _ rfl he)
    have HE2 := hide he
    generalize chkC vars (numsOf rs) = E at *
    clear he
    go_wp2_with fail
    go_ret2
    exact ⟨false, by rw [HF3.out]; rfl, ⟨(fun e => by cases e), fun e => absurd (HF3.out.symm.trans e.1) HE2.out⟩, by rw [hbx]; exact HB12.out⟩
end Go.Proofs.Ytabnimgpednhjab.Pf
