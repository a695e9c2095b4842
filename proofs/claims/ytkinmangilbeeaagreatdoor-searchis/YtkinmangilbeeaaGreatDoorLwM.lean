/- Clauses: the plain Check and Holds. -/
import Derived.Test.YtkinmangilbeeaaGreatDoorRbM
import Derived.Test.YtkinmangilbeeaaGreatDoorLvM
import Derived.Test.YtkinmangilbeeaaGreatDoorQaM
import Derived.Test.YtkinmangilbeeaaGreatDoorQc
namespace Go.Proofs.YtkinmangilbeeaaGreatDoor
open Go.RowKit Go.Maps Go.WideMaps
set_option maxRecDepth 100000

theorem between_any (x lo hi : Int) (w : World) :
    Calls Tryz.prog 11 #[.int .i64 x, .int .i64 lo, .int .i64 hi] w fun e w' => e = .returned (.bool (btw x lo hi)) ∧ w' = w := by
  go_enter Tryz.func11, Tryz.ntmps11
  go_wp2
  all_goals
    go_ret
    exact ⟨ret_bool (by rw [Bool.eq_iff_iff, btw_true]; simp; try omega), rfl⟩
theorem row_five {vars : Int} {ns : List Int} (h1 : ns.length ≤ 200) {k : Nat} (hk : k < ns.length) (h : noneC vars ns[k] = true) : rowE vars ns = 5 := by
  unfold rowE
  rw [if_neg (by omega), if_pos (List.any_eq_true.2 ⟨_, List.getElem_mem hk, h⟩)]
theorem row_nil {vars : Int} {ns : List Int} (h1 : ns.length ≤ 200) (h : ∀ i (hi : i < ns.length), noneC vars ns[i] = false) : rowE vars ns = 0 := by
  unfold rowE
  have : ns.any (noneC vars) = false := by
    rw [List.any_eq_false]
    intro x hx
    obtain ⟨i, hi, rfl⟩ := List.getElem_of_mem hx
    rw [h i hi]; simp
  rw [if_neg (by omega), this]
  rfl

set_option maxHeartbeats 4000000 in
theorem checkClause_any (vars : Int) (h0 : 0 ≤ vars) (h1 : vars ≤ 200000) (p : Option Addr) (cap : Nat) (ns : List Int) (hl : ns.length ≤ maxLen) (w : World) (hI : IntsAt w p ns) :
    Calls Tryz.prog 12 #[.int .i64 vars, .slice p ns.length cap] w fun e w' => e = .returned (.int .i64 (rowE vars ns)) ∧ w' = w := by
  have HI := hide hI
  unfold maxLen at hl
  clear hI
  by_cases h2 : 200 < ns.length
  · have HX : Hid (rowE vars ns = 2) := by unfold rowE; rw [if_pos h2]; rfl
    have h2' : (200 : Int) < (ns.length : Int) := by omega
    go_enter Tryz.func12, Tryz.ntmps12
    go_wp2
    go_ret
    exact ⟨ret_int HX.out.symm, rfl⟩
  · have h2' : ¬ (200 : Int) < (ns.length : Int) := by omega
    go_enter Tryz.func12, Tryz.ntmps12
    go_wp2
    go_loopw [5] (fun i wr => ∃ k : Nat, k ≤ ns.length ∧ i = .int .i64 k ∧ Hid (∀ i (hi : i < ns.length), i < k → noneC vars ns[i] = false) ∧ wr = w) (fun i _ => ns.length - (intOf i).toNat)
    case atStart => exact ⟨0, Nat.zero_le _, rfl, fun i hi h => by omega, rfl⟩
    case round =>
      obtain ⟨k, hk, rfl, hno, rfl⟩ := hrel
      by_cases hlt : k < ns.length
      · obtain ⟨b, off, rfl, hc⟩ := HI.out (by omega)
        have hck := hc k hlt
        have hki : (k : Int) < (ns.length : Int) := by omega
        have HF := hide (row_five (vars := vars) (by omega) hlt)
        have HN : Hid (noneC vars ns[k] = false → ∀ i (hi : i < ns.length), i < k + 1 → noneC vars ns[i] = false) := by
          intro hf i hi h
          rcases Nat.lt_succ_iff_lt_or_eq.1 h with h1 | rfl
          · exact hno.out i hi h1
          · exact hf
        clear hc hno
        generalize ns[k] = x at *
        have HE : Hid (noneC vars x = (x == 0 || decide (x < -vars) || decide (vars < x))) := rfl
        by_cases hz : x = 0
        · have HX := hide (HF.out (by rw [HE.out]; simp [hz]))
          subst hz
          go_wp2
          go_ret
          exact ⟨ret_int HX.out.symm, rfl⟩
        · have hz' : (x == 0) = false := by simpa using hz
          by_cases hg : vars < x
          · have HX := hide (HF.out (by rw [HE.out]; simp [hg]))
            go_wp2
            go_ret
            exact ⟨ret_int HX.out.symm, rfl⟩
          · by_cases hs : x < -vars
            · have HX := hide (HF.out (by rw [HE.out]; simp [hs]))
              go_wp2
              go_ret
              exact ⟨ret_int HX.out.symm, rfl⟩
            · have HX := hide (HN.out (by rw [HE.out, hz']; simp [hs, hg]))
              go_wp2
              go_roundw
              case rel => exact ⟨k + 1, by omega, by go_num, HX, trivial⟩
              case measure => simp [intOf]; omega
      · have HX := hide (row_nil (vars := vars) (by omega) (fun i hi => hno.out i hi (by omega)))
        go_wp2
        go_ret
        exact ⟨ret_int HX.out.symm, rfl⟩

set_option maxHeartbeats 4000000 in
theorem checkClauses_any (vars : Int) (p : Option Addr) (cap : Nat) (rs : List Row) (hl : rs.length ≤ 8796093022208) (hin : ∀ r ∈ rs, r.ns.length ≤ maxLen) (w : World) (hC : ClAt w p rs) :
    Calls Tryz.prog 5 #[cval vars p rs.length cap] w fun e w' => e = .returned (.int .i64 (chkC vars (numsOf rs))) ∧ Below w.heap.size w w' := by
  have hB0 : Below w.heap.size w (w.alloc (.cells #[.int .i64 vars, .slice p rs.length cap] 24)) := bal (Below.refl _ _) _
  have hnl := numsOf_len rs
  have HE : Hid (chkC vars (numsOf rs) = if btw vars 0 200000 = false then 3 else if 800000 < rs.length then 2 else firstE vars (numsOf rs)) := by unfold chkC; rw [hnl]; rfl
  have HC := hide (hC.later hB0)
  have HIN := hide hin
  have HBT := hide (fun w => between_any vars 0 200000 w)
  clear hC hin
  generalize chkC vars (numsOf rs) = R at *
  cases hbt : btw vars 0 200000
  · rw [hbt] at HE HBT
    have HX : Hid (R = 3) := by rw [HE.out]; rfl
    go_enter Tryz.func5, Tryz.ntmps5
    go_wp2_with (go_at_call 11; refine (HBT.out _).mono ?_; rintro e w' ⟨rfl, rfl⟩)
    go_ret
    exact ⟨ret_int HX.out.symm, hB0⟩
  · obtain ⟨hv, hv2⟩ := btw_true.1 hbt
    rw [hbt, if_neg (by decide)] at HE
    rw [hbt] at HBT
    by_cases hm : 800000 < rs.length
    · have HX : Hid (R = 2) := by rw [HE.out, if_pos hm]; rfl
      have hm' : (800000 : Int) < (rs.length : Int) := by omega
      go_enter Tryz.func5, Tryz.ntmps5
      go_wp2_with (go_at_call 11; refine (HBT.out _).mono ?_; rintro e w' ⟨rfl, rfl⟩)
      go_ret
      exact ⟨ret_int HX.out.symm, hB0⟩
    · rw [if_neg hm] at HE
      have hm' : ¬ (800000 : Int) < (rs.length : Int) := by omega
      have b0 : (w.alloc (.cells #[.int .i64 vars, .slice p rs.length cap] 24)).cell? ⟨w.heap.size, 0, none⟩ = some (.int .i64 vars) := by simp [go_sem]
      have b1 : (w.alloc (.cells #[.int .i64 vars, .slice p rs.length cap] 24)).cell? ⟨w.heap.size, 1, none⟩ = some (.slice p rs.length cap) := by simp [go_sem]
      have HB0 := hide hB0
      clear hB0 hbt
      go_enter Tryz.func5, Tryz.ntmps5
      go_wp2_with (go_at_call 11; refine (HBT.out _).mono ?_; rintro e w' ⟨rfl, rfl⟩)
      generalize w.alloc (.cells #[.int .i64 vars, .slice p rs.length cap] 24) = w0 at *
      go_loopw [3] (fun i wr => ∃ k : Nat, k ≤ rs.length ∧ i = .int .i64 k ∧ Hid (firstE vars (numsOf rs) = firstE vars ((numsOf rs).drop k)) ∧ Below w0.heap.size w0 wr) (fun i _ => rs.length - (intOf i).toNat)
      case atStart => exact ⟨0, Nat.zero_le _, rfl, by simp [Hid], Below.refl _ _⟩
      case round =>
        obtain ⟨k, hk, rfl, hf, hbw⟩ := hrel
        have c0 := cell_later hbw b0
        have c1 := cell_later hbw b1
        have HBW := hide (bthen HB0.out hbw)
        by_cases hlt : k < rs.length
        · obtain ⟨b, off, rfl, hc⟩ := (HC.out.rows.later hbw) (by omega)
          have hck := hc k hlt
          have hki : (k : Int) < (rs.length : Int) := by omega
          have hrk : (numsOf rs)[k]'(by omega) = rs[k].ns := by simp [numsOf]
          have HD := hide (firstE_drop vars (numsOf rs) k (by omega))
          rw [hrk] at HD
          have HIR := hide ((HC.out.inn.later hbw) rs[k] (List.getElem_mem hlt))
          have hnk := HIN.out rs[k] (List.getElem_mem hlt)
          clear hc hrk
          generalize rs[k] = r at *
          obtain ⟨ra, rn, rc⟩ := r
          unfold Row.v at hck
          simp only at *
          have HCL := hide (fun (w' : World) (hb : Below wr.heap.size wr w') => checkClause_any vars hv hv2 ra rc rn hnk w' (HIR.out.later hb))
          have hbd : Below wr.heap.size wr wr.drew := (Below.refl _ wr).drew
          have HB2 := hide (bthen hbw hbd)
          clear hnk hbw
          by_cases hz : rowE vars rn = 0
          · rw [hz] at HCL HD
            have HNX : Hid (firstE vars (numsOf rs) = firstE vars ((numsOf rs).drop (k + 1))) := by rw [hf.out, HD.out]; rfl
            clear HD hf hz
            go_wp2
            go_region_held3 (fun w' => w'.cell? ⟨w.heap.size, 0, none⟩ = some (.int .i64 vars) ∧ w'.cell? ⟨w.heap.size, 1, none⟩ = some (.slice (some ⟨b, off, none⟩) rs.length cap) ∧ w'.cell? ⟨b, off + k, none⟩ = some (.slice ra rn.length rc))
              (go_keep)
              ((go_at_call 12; refine (HCL.out _ hbd).mono ?_; rintro e w' ⟨rfl, rfl⟩))
            all_goals
              go_wp2
              go_roundw
              case rel => exact ⟨k + 1, by omega, by go_num, HNX, HB2.out⟩
              case measure => simp [intOf]; omega
          · have hz' : (rowE vars rn != 0) = true := by simpa using hz
            have HX : Hid (R = rowE vars rn) := by rw [HE.out, hf.out, HD.out, if_pos hz]; rfl
            clear HD hf hz HE
            generalize rowE vars rn = Z at *
            go_wp2
            go_region_held3 (fun w' => w'.cell? ⟨w.heap.size, 0, none⟩ = some (.int .i64 vars) ∧ w'.cell? ⟨w.heap.size, 1, none⟩ = some (.slice (some ⟨b, off, none⟩) rs.length cap) ∧ w'.cell? ⟨b, off + k, none⟩ = some (.slice ra rn.length rc))
              (go_keep)
              ((go_at_call 12; refine (HCL.out _ hbd).mono ?_; rintro e w' ⟨rfl, rfl⟩))
            all_goals
              go_wp2
              go_ret
              exact ⟨ret_int HX.out.symm, HBW.out.drew⟩
        · have HX : Hid (R = 0) := by
            rw [HE.out, hf.out, List.drop_of_length_le (by omega)]; rfl
          clear HE hf
          go_wp2
          go_ret
          exact ⟨ret_int HX.out.symm, HBW.out⟩

theorem any_take (f : Int → Bool) (l : List Int) (k : Nat) (h : k < l.length) : (l.take (k + 1)).any f = ((l.take k).any f || f l[k]) := by
  rw [List.take_succ_eq_append_getElem h, List.any_append]
  simp

end Go.Proofs.YtkinmangilbeeaaGreatDoor

namespace Go.Proofs.YtkinmangilbeeaaGreatDoor.Sr
open Go.RowKit Go.Maps Go.Proofs.YtkinmangilbeeaaGreatDoor.Pf
set_option maxRecDepth 100000

theorem pB_ex (vars : Int) (L P : List (List Int)) : ∃ b : Bool, b = true ↔ chkC vars (L ++ P) = 0 ∧ PrfOk L P := by
  by_cases h : chkC vars (L ++ P) = 0 ∧ PrfOk L P
  · exact ⟨true, (fun _ => h), (fun _ => rfl)⟩
  · exact ⟨false, (fun e => by cases e), (fun e => absurd e h)⟩
def isA (pb : Bool) (vars : Int) (L : List (List Int)) (v : Int) (vb : List Bool) (P : List (List Int)) : Bool × Int :=
  if chkC vars L ≠ 0 then (false, chkC vars L) else if v = 1 then (hoB vars L vb && decide (P.length = 0), 0) else if v = 2 then (decide (vb.length = 0) && pb, 0) else if v = 3 then (decide (vb.length = 0) && decide (P.length = 0), 0) else (false, 7)
def aval (v : Int) (q : Option Addr) (n qc : Nat) (r : Option Addr) (m rc : Nat) : Value := .agg #[.int .i64 v, .slice q n qc, .slice r m rc]
/-- What Is leaves. -/
def IsOut (w : World) (x : Bool × Int) (e : Ending) (w' : World) : Prop := e = .returned (.tuple #[.bool x.1, .int .i64 x.2]) ∧ Below w.heap.size w w'
set_option maxHeartbeats 8000000 in
theorem is_any (vars : Int) (p : Option Addr) (cap : Nat) (rs : List Row) (v : Int) (q : Option Addr) (qc : Nat) (vb : List Bool) (r : Option Addr) (rc : Nat) (ps : List Row) (pb : Bool) (hpb : pb = true ↔ chkC vars (numsOf rs ++ numsOf ps) = 0 ∧ PrfOk (numsOf rs) (numsOf ps)) (hl : rs.length ≤ 5864062014634) (hl2 : ps.length ≤ 5864062014634) (hin : ∀ r ∈ rs ++ ps, r.ns.length ≤ maxLen) (hvl : vb.length ≤ maxLen) (hp : p = none → cap = 0) (hq : r = none → rc = 0) (w : World) (hC : ClAt w p rs) (hV : BoolsAt w q vb) (hD : ClAt w r ps) :
    Calls Tryz.prog 4 #[cval vars p rs.length cap, aval v q vb.length qc r ps.length rc] w (IsOut w (isA pb vars (numsOf rs) v vb (numsOf ps))) := by
  have HPBQ := hide hpb
  clear hpb
  obtain ⟨n, hn⟩ : ∃ n, rs.length = n := ⟨_, rfl⟩
  obtain ⟨m, hm⟩ : ∃ m, ps.length = m := ⟨_, rfl⟩
  obtain ⟨k, hk⟩ : ∃ k, vb.length = k := ⟨_, rfl⟩
  have hB0 : Below w.heap.size w ((w.alloc (.cells #[.int .i64 vars, .slice p n cap] 24)).alloc (.cells #[.int .i64 v, .slice q k qc, .slice r m rc] 27)) := bal (bal (Below.refl _ _) _) _
  have x0 : ((w.alloc (.cells #[.int .i64 vars, .slice p n cap] 24)).alloc (.cells #[.int .i64 v, .slice q k qc, .slice r m rc] 27)).cell? ⟨w.heap.size, 0, none⟩ = some (.int .i64 vars) := by simp [go_sem]
  have x1 : ((w.alloc (.cells #[.int .i64 vars, .slice p n cap] 24)).alloc (.cells #[.int .i64 v, .slice q k qc, .slice r m rc] 27)).cell? ⟨w.heap.size, 1, none⟩ = some (.slice p n cap) := by simp [go_sem]
  have x2 : ((w.alloc (.cells #[.int .i64 vars, .slice p n cap] 24)).alloc (.cells #[.int .i64 v, .slice q k qc, .slice r m rc] 27)).cell? ⟨w.heap.size + 1, 0, none⟩ = some (.int .i64 v) := by simp [go_sem]
  have x3 : ((w.alloc (.cells #[.int .i64 vars, .slice p n cap] 24)).alloc (.cells #[.int .i64 v, .slice q k qc, .slice r m rc] 27)).cell? ⟨w.heap.size + 1, 1, none⟩ = some (.slice q k qc) := by simp [go_sem]
  have x4 : ((w.alloc (.cells #[.int .i64 vars, .slice p n cap] 24)).alloc (.cells #[.int .i64 v, .slice q k qc, .slice r m rc] 27)).cell? ⟨w.heap.size + 1, 2, none⟩ = some (.slice r m rc) := by simp [go_sem]
  have HCK := hide (checkC_any vars p cap rs (by omega) (fun r hr => hin r (List.mem_append.2 (.inl hr))) _ (hC.later hB0))
  have HHO : Hid (∀ W, Below w.heap.size w W → Calls Tryz.prog 9 #[cval vars p n cap, .slice q k qc] W fun e w' => e = .returned (.tuple #[.bool (hoB vars (numsOf rs) vb), .int .i64 (hoE vars (numsOf rs) vb)]) ∧ Below W.heap.size W w') := fun W hb => by
    rw [← hn, ← hk]
    exact holds_any vars p cap rs (by omega) (fun r hr => hin r (List.mem_append.2 (.inl hr))) vb q qc hvl W (hC.later hb) (hV.later hb)
  have HPR : Hid (∀ W, Below w.heap.size w W → Calls Tryz.prog 10 #[cval vars p n cap, .slice r m rc] W (CkOut W vars (numsOf rs) (numsOf ps))) := fun W hb => by
    rw [← hn, ← hm]
    exact checkP_any vars p r cap rc rs ps (by omega) hin hp hq W (hC.later hb) (hD.later hb)
  have HSP : Hid (isA pb vars (numsOf rs) v vb (numsOf ps) = if chkC vars (numsOf rs) ≠ 0 then (false, chkC vars (numsOf rs)) else if v = 1 then (hoB vars (numsOf rs) vb && decide (m = 0), 0) else if v = 2 then (decide (k = 0) && pb, 0) else if v = 3 then (decide (k = 0) && decide (m = 0), 0) else (false, 7)) := by
    unfold Hid isA
    rw [numsOf_len, hm, hk]
  rw [hn] at HCK
  rw [hn, hm, hk]
  have HB0 := hide hB0
  clear hin hvl hp hq hC hV hD hB0 hl hl2 hn hm hk
  generalize chkC vars (numsOf rs) = ck at *
  generalize hoE vars (numsOf rs) vb = he at *
  generalize hoB vars (numsOf rs) vb = hb at *
  unfold cval aval at *
  go_enter Tryz.func4, Tryz.ntmps4
  go_wp2_with fail
  generalize (w.alloc (.cells #[.int .i64 vars, .slice p n cap] 24)).alloc (.cells #[.int .i64 v, .slice q k qc, .slice r m rc] 27) = w1 at *
  refine HCK.out.mono ?_
  rintro e w2 ⟨rfl, hb2⟩
  have y0 := cell_later hb2 x0
  have y1 := cell_later hb2 x1
  have y2 := cell_later hb2 x2
  have y3 := cell_later hb2 x3
  have y4 := cell_later hb2 x4
  have HB2 := hide (bthen HB0.out hb2)
  clear hb2 HCK x0 x1 x2 x3 x4 HB0
  have hmz : ((m : Int) == 0) = decide (m = 0) := by rw [Bool.eq_iff_iff]; simp
  have HMZ := hide hmz
  clear hmz
  by_cases hck : ck = 0
  · subst hck
    rw [if_neg (by simp)] at HSP
    by_cases h1 : v = 1
    · subst h1
      rw [if_pos rfl] at HSP
      go_wp2_with fail
      refine (HHO.out w2 HB2.out).mono ?_
      rintro e w3 ⟨rfl, hb3⟩
      have z4 := cell_later hb3 y4
      have HB3 := hide (bthen HB2.out hb3)
      clear hb3 y0 y1 y2 y3 y4
      cases hb
      · go_wp2
        go_ret2
        exact ⟨by rw [HSP.out]; rfl, HB3.out⟩
      · go_wp2
        go_ret2
        exact ⟨by rw [HSP.out, Bool.true_and, ← HMZ.out]; rfl, HB3.out⟩
    · rw [if_neg h1] at HSP
      have d1 : (v == 1) = false := by simpa using h1
      by_cases h2 : v = 2
      · subst h2
        rw [if_pos rfl] at HSP
        by_cases hk0 : k = 0
        · subst hk0
          go_wp2_with fail
          refine (HPR.out w2 HB2.out).mono ?_
          rintro e w3 ⟨b, rfl, hb3, hbw⟩
          have HPB : Hid (pb = b) := by
            unfold Hid
            rw [Bool.eq_iff_iff, HPBQ.out]
            exact hb3.symm
          have HB3 := hide (bthen HB2.out hbw)
          clear hb3 hbw y0 y1 y2 y3 y4
          go_wp2
          go_ret2
          exact ⟨by rw [HSP.out, HPB.out]; rfl, HB3.out⟩
        · have hkp : decide ((0 : Int) < (k : Int)) = true := by simp; omega
          have hkf : Hid (decide (k = 0) = false) := decide_eq_false hk0
          go_wp2
          go_ret2
          exact ⟨by rw [HSP.out, hkf.out]; rfl, HB2.out⟩
      · rw [if_neg h2] at HSP
        have d2 : (v == 2) = false := by simpa using h2
        by_cases h3 : v = 3
        · subst h3
          rw [if_pos rfl] at HSP
          by_cases hk0 : k = 0
          · subst hk0
            go_wp2
            go_ret2
            exact ⟨by rw [HSP.out, ← HMZ.out]; rfl, HB2.out⟩
          · have hkf : Hid (decide (k = 0) = false) := decide_eq_false hk0
            have hkb : ((k : Int) == 0) = false := by simp; omega
            go_wp2
            go_ret2
            exact ⟨by rw [HSP.out, hkf.out]; rfl, HB2.out⟩
        · rw [if_neg h3] at HSP
          have d3 : (v == 3) = false := by simpa using h3
          go_wp2
          go_ret2
          exact ⟨by rw [HSP.out]; rfl, HB2.out⟩
  · rw [if_pos hck] at HSP
    have hcn : (ck != 0) = true := by simpa using hck
    go_wp2
    go_ret2
    exact ⟨by rw [HSP.out]; rfl, HB2.out⟩
end Go.Proofs.YtkinmangilbeeaaGreatDoor.Sr
