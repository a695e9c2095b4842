/- Clauses: the plain Holds. -/
import Derived.Test.YtkinmangilbeeaaGreatDoorLwM
import Derived.Test.YtkinmangilbeeaaGreatDoorLx
namespace Go.Proofs.YtkinmangilbeeaaGreatDoor
open Go.RowKit Go.Maps Go.WideMaps
set_option maxRecDepth 100000

set_option maxHeartbeats 8000000 in
theorem holdsOf_any (v : List Bool) (p : Option Addr) (cap : Nat) (rs : List Row) (hl : rs.length ≤ 800000) (hin : ∀ r ∈ rs, r.ns.length ≤ 200 ∧ ∀ n ∈ r.ns, n ≠ 0 ∧ -v.length ≤ n ∧ n ≤ v.length) (hvl : v.length ≤ 200000) (q : Option Addr) (qc : Nat) (vars : Int) (w : World) (hC : ClAt w p rs) (hV : BoolsAt w q v) :
    Calls Tryz.prog 13 #[cval vars p rs.length cap, .slice q v.length qc] w fun e w' => e = .returned (.bool (holdsL v (numsOf rs))) ∧ Below w.heap.size w w' := by
  have hB0 : Below w.heap.size w (w.alloc (.cells #[.int .i64 vars, .slice p rs.length cap] 24)) := bal (Below.refl _ _) _
  have HC := hide (hC.later hB0)
  have HV := hide (hV.later hB0)
  have HIN := hide hin
  have HNO : Hid (∀ k (h : k < rs.length), rs[k].ns.any (soN v) = false → holdsL v (numsOf rs) = false) := fun k h hk => by
    unfold holdsL numsOf
    rw [List.all_eq_false]
    exact ⟨rs[k].ns, List.mem_map.2 ⟨_, List.getElem_mem h, rfl⟩, by rw [hk]; simp⟩
  have HYES : Hid ((∀ k (h : k < rs.length), rs[k].ns.any (soN v) = true) → holdsL v (numsOf rs) = true) := fun h => by
    unfold holdsL numsOf
    rw [List.all_eq_true]
    intro x hx
    obtain ⟨r, hr, rfl⟩ := List.mem_map.1 hx
    obtain ⟨i, hi, rfl⟩ := List.getElem_of_mem hr
    exact h i hi
  have b1 : (w.alloc (.cells #[.int .i64 vars, .slice p rs.length cap] 24)).cell? ⟨w.heap.size, 1, none⟩ = some (.slice p rs.length cap) := by simp [go_sem]
  have HB0 := hide hB0
  clear hC hV hin hB0
  generalize holdsL v (numsOf rs) = R at *
  go_enter Tryz.func13, Tryz.ntmps13
  go_wp2
  generalize w.alloc (.cells #[.int .i64 vars, .slice p rs.length cap] 24) = w0 at *
  go_loopw [5] (fun i wr => ∃ k : Nat, k ≤ rs.length ∧ i = .int .i64 k ∧ Hid (∀ i (hi : i < rs.length), i < k → rs[i].ns.any (soN v) = true) ∧ wr = w0) (fun i _ => rs.length - (intOf i).toNat)
  case atStart => exact ⟨0, Nat.zero_le _, rfl, fun i hi h => by omega, rfl⟩
  case round =>
    obtain ⟨k, hk, rfl, hall, rfl⟩ := hrel
    by_cases hlt : k < rs.length
    · obtain ⟨b, off, rfl, hc⟩ := HC.out.rows (by omega)
      have hck := hc k hlt
      have hki : (k : Int) < (rs.length : Int) := by omega
      have HIR := hide (HC.out.inn rs[k] (List.getElem_mem hlt))
      have hnk := HIN.out rs[k] (List.getElem_mem hlt)
      have HNK := hide (HNO.out k hlt)
      have HST : Hid (rs[k].ns.any (soN v) = true → ∀ i (hi : i < rs.length), i < k + 1 → rs[i].ns.any (soN v) = true) := by
        intro hf i hi h
        rcases Nat.lt_succ_iff_lt_or_eq.1 h with h1 | rfl
        · exact hall.out i hi h1
        · exact hf
      clear hc hall
      generalize rs[k] = r at *
      obtain ⟨ra, rn, rc⟩ := r
      unfold Row.v at hck
      simp only at *
      obtain ⟨hn2, hnum⟩ := hnk
      have HNUM := hide hnum
      clear hnum
      go_wp2
      go_loopw [6, 7] (fun s j wr2 => ∃ m : Nat, m ≤ rn.length ∧ j = .int .i64 m ∧ s = .bool ((rn.take m).any (soN v)) ∧ wr2 = wr) (fun _ j _ => rn.length - (intOf j).toNat)
      case atStart => exact ⟨0, Nat.zero_le _, rfl, by simp, rfl⟩
      case round =>
        obtain ⟨m, hm, rfl, rfl, rfl⟩ := hrel
        by_cases hlt2 : m < rn.length
        · obtain ⟨ib, io, rfl, hic⟩ := HIR.out (by omega)
          have hcm := hic m hlt2
          have hmi : (m : Int) < (rn.length : Int) := by omega
          have hxn := HNUM.out rn[m] (List.getElem_mem hlt2)
          have HS := hide (any_take (soN v) rn m hlt2)
          clear hic
          generalize rn[m] = x at *
          obtain ⟨n1, n2, n3⟩ := hxn
          obtain ⟨vb, vo, rfl, hvc⟩ := HV.out (by omega)
          generalize (rn.take m).any (soN v) = so at *
          by_cases hx : 0 < x
          · have hi : x.toNat - 1 < v.length := by omega
            have c0 := hvc (x.toNat - 1) hi
            have HX : Hid (soN v x = v[x.toNat - 1]) := by
              have := soN_pos v x hx
              rw [getD_bools hi] at this
              exact this
            rw [HX.out] at HS
            clear hvc HX
            generalize v[x.toNat - 1] = y at *
            have hi0 : (0 : Int) ≤ x - 1 := by omega
            have hi1 : x - 1 < (v.length : Int) := by omega
            cases so
            · have HS2 : Hid ((rn.take (m + 1)).any (soN v) = y) := by rw [HS.out]; simp [Hid]
              go_wp2
              go_roundw
              case rel => exact ⟨m + 1, by omega, by go_num, by rw [HS2.out], trivial⟩
              case measure => simp [intOf]; omega
            · have HS2 : Hid ((rn.take (m + 1)).any (soN v) = true) := by rw [HS.out]; simp [Hid]
              go_wp2
              go_roundw
              case rel => exact ⟨m + 1, by omega, by go_num, by rw [HS2.out], trivial⟩
              case measure => simp [intOf]; omega
          · have hi : (-x).toNat - 1 < v.length := by omega
            have c0 := hvc ((-x).toNat - 1) hi
            have HX : Hid (soN v x = !v[(-x).toNat - 1]) := by
              have := soN_neg v (-x) (by omega)
              rw [Int.neg_neg, getD_bools hi] at this
              exact this
            rw [HX.out] at HS
            clear hvc HX
            generalize v[(-x).toNat - 1] = y at *
            have hi0 : (0 : Int) ≤ -x - 1 := by omega
            have hi1 : -x - 1 < (v.length : Int) := by omega
            cases so
            · have HS2 : Hid ((rn.take (m + 1)).any (soN v) = !y) := by rw [HS.out]; simp [Hid]
              go_wp2
              go_roundw
              case rel => exact ⟨m + 1, by omega, by go_num, by rw [HS2.out], trivial⟩
              case measure => simp [intOf]; omega
            · have HS2 : Hid ((rn.take (m + 1)).any (soN v) = true) := by rw [HS.out]; simp [Hid]
              go_wp2
              go_roundw
              case rel => exact ⟨m + 1, by omega, by go_num, by rw [HS2.out], trivial⟩
              case measure => simp [intOf]; omega
        · obtain rfl : m = rn.length := by omega
          rw [List.take_length]
          have hmi : ¬ (rn.length : Int) < (rn.length : Int) := by omega
          cases hso : rn.any (soN v)
          · have HX := hide (HNK.out hso)
            clear hso
            go_wp2
            go_ret
            exact ⟨ret_bool HX.out.symm, HB0.out⟩
          · have HX := hide (HST.out hso)
            clear hso
            go_wp2
            go_roundw
            case rel => exact ⟨k + 1, by omega, by go_num, HX, trivial⟩
            case measure => simp [intOf]; omega
    · have HX := hide (HYES.out (fun i hi => hall.out i hi (by omega)))
      go_wp2
      go_ret
      exact ⟨ret_bool HX.out.symm, HB0.out⟩

end Go.Proofs.YtkinmangilbeeaaGreatDoor

namespace Go.Proofs.YtkinmangilbeeaaGreatDoor.Sr
open Go.RowKit Go.Maps Go.Proofs.YtkinmangilbeeaaGreatDoor.Pf
set_option maxRecDepth 100000

set_option maxHeartbeats 8000000 in
theorem answerIs_any (vars : Int) (p : Option Addr) (cap : Nat) (rs : List Row) (v : Int) (q : Option Addr) (qc : Nat) (vb : List Bool) (r : Option Addr) (rc : Nat) (ps : List Row) (pb : Bool) (hpb : pb = true ↔ chkC vars (numsOf rs ++ numsOf ps) = 0 ∧ PrfOk (numsOf rs) (numsOf ps)) (hck : chkC vars (numsOf rs) = 0) (hl2 : ps.length ≤ 5864062014634) (hin : ∀ r ∈ rs ++ ps, r.ns.length ≤ maxLen) (hp : p = none → cap = 0) (hq : r = none → rc = 0) (w : World) (hC : ClAt w p rs) (hV : BoolsAt w q vb) (hD : ClAt w r ps) :
    Calls Tryz.prog 6 #[cval vars p rs.length cap, aval v q vb.length qc r ps.length rc] w (IsOut w (isA pb vars (numsOf rs) v vb (numsOf ps))) := by
  obtain ⟨hv0, hv1, hrl, hrx⟩ := chkC_zero hck
  rw [numsOf_len] at hrl
  obtain ⟨n, hn⟩ : ∃ n, rs.length = n := ⟨_, rfl⟩
  obtain ⟨m, hm⟩ : ∃ m, ps.length = m := ⟨_, rfl⟩
  obtain ⟨k, hk⟩ : ∃ k, vb.length = k := ⟨_, rfl⟩
  have hB0 : Below w.heap.size w ((w.alloc (.cells #[.int .i64 vars, .slice p n cap] 24)).alloc (.cells #[.int .i64 v, .slice q k qc, .slice r m rc] 27)) := bal (bal (Below.refl _ _) _) _
  have x0 : ((w.alloc (.cells #[.int .i64 vars, .slice p n cap] 24)).alloc (.cells #[.int .i64 v, .slice q k qc, .slice r m rc] 27)).cell? ⟨w.heap.size, 0, none⟩ = some (.int .i64 vars) := by simp [go_sem]
  have x1 : ((w.alloc (.cells #[.int .i64 vars, .slice p n cap] 24)).alloc (.cells #[.int .i64 v, .slice q k qc, .slice r m rc] 27)).cell? ⟨w.heap.size, 1, none⟩ = some (.slice p n cap) := by simp [go_sem]
  have x2 : ((w.alloc (.cells #[.int .i64 vars, .slice p n cap] 24)).alloc (.cells #[.int .i64 v, .slice q k qc, .slice r m rc] 27)).cell? ⟨w.heap.size + 1, 0, none⟩ = some (.int .i64 v) := by simp [go_sem]
  have x3 : ((w.alloc (.cells #[.int .i64 vars, .slice p n cap] 24)).alloc (.cells #[.int .i64 v, .slice q k qc, .slice r m rc] 27)).cell? ⟨w.heap.size + 1, 1, none⟩ = some (.slice q k qc) := by simp [go_sem]
  have x4 : ((w.alloc (.cells #[.int .i64 vars, .slice p n cap] 24)).alloc (.cells #[.int .i64 v, .slice q k qc, .slice r m rc] 27)).cell? ⟨w.heap.size + 1, 2, none⟩ = some (.slice r m rc) := by simp [go_sem]
  have HHO : Hid ((k : Int) = vars → ∀ W, Below w.heap.size w W → Calls Tryz.prog 13 #[cval vars p n cap, .slice q k qc] W fun e w' => e = .returned (.bool (holdsL vb (numsOf rs))) ∧ Below W.heap.size W w') := fun hkv W hb => by
    rw [← hn, ← hk]
    exact holdsOf_any vb p cap rs (by omega) (fun r hr => by
      obtain ⟨h1, h2⟩ := hrx r.ns (List.mem_map.2 ⟨r, hr, rfl⟩)
      refine ⟨h1, fun x hx => ?_⟩
      have := h2 x hx
      rw [hk, hkv]
      exact this) (by omega) q qc vars W (hC.later hb) (hV.later hb)
  have HPR : Hid (∀ W, Below w.heap.size w W → Calls Tryz.prog 14 #[cval vars p n cap, .slice r m rc] W fun e w' => e = .returned (.int .i64 (chkC vars (numsOf rs ++ numsOf ps))) ∧ Below W.heap.size W w') := fun W hb => by
    rw [← hn, ← hm]
    exact checkProof_any vars p r cap rc rs ps hck hrl hl2 hin hp hq W (hC.later hb) (hD.later hb)
  have HPO : Hid (chkC vars (numsOf rs ++ numsOf ps) = 0 → ∀ W, Below w.heap.size w W → Calls Tryz.prog 15 #[cval vars p n cap, .slice r m rc] W (PoOut W (numsOf rs) (numsOf ps))) := fun h0 W hb => by
    obtain ⟨_, _, hl, hx⟩ := chkC_zero h0
    rw [← hn, ← hm]
    refine proofOf_any vars ⟨hv0, hv1⟩ p r cap rc rs ps (by rw [List.length_append, numsOf_len, numsOf_len] at hl; exact hl) (fun x hxm => ?_) hp W (hC.later hb) (hD.later hb)
    have := hx x.ns (by
      rcases List.mem_append.1 hxm with h | h
      · exact List.mem_append.2 (.inl (List.mem_map.2 ⟨x, h, rfl⟩))
      · exact List.mem_append.2 (.inr (List.mem_map.2 ⟨x, h, rfl⟩)))
    exact ⟨this.1, fun y hy => ⟨(this.2 y hy).1, (this.2 y hy).2.1, (this.2 y hy).2.2⟩⟩
  have HSP : Hid (isA pb vars (numsOf rs) v vb (numsOf ps) = if v = 1 then ((if (k : Int) = vars then holdsL vb (numsOf rs) else false) && decide (m = 0), 0) else if v = 2 then (decide (k = 0) && pb, 0) else if v = 3 then (decide (k = 0) && decide (m = 0), 0) else (false, 7)) := by
    unfold Hid isA hoB hoE
    rw [hck, numsOf_len, hm, hk]
    by_cases hkv : (k : Int) = vars
    · simp [hkv]
    · simp [hkv]
  have HPF : Hid (pb = true ↔ chkC vars (numsOf rs ++ numsOf ps) = 0 ∧ PrfOk (numsOf rs) (numsOf ps)) := hide hpb
  clear hpb
  rw [hn, hm, hk]
  have HB0 := hide hB0
  clear hin hp hq hC hV hD hB0 hl2 hn hm hk hck hrx hrl hv0 hv1
  generalize chkC vars (numsOf rs ++ numsOf ps) = ck at *
  generalize holdsL vb (numsOf rs) = ho at *
  unfold cval aval at *
  go_enter Tryz.func6, Tryz.ntmps6
  by_cases h1 : v = 1
  · subst h1
    rw [if_pos rfl] at HSP
    by_cases hm0 : m = 0
    · subst hm0
      by_cases hkv : (k : Int) = vars
      · have HH := hide (HHO.out hkv)
        rw [if_pos hkv] at HSP
        have hkb : ((k : Int) == vars) = true := by simpa using hkv
        go_wp2_with fail
        generalize (w.alloc (.cells #[.int .i64 vars, .slice p n cap] 24)).alloc (.cells #[.int .i64 1, .slice q k qc, .slice r 0 rc] 27) = w1 at *
        refine (HH.out w1 HB0.out).mono ?_
        rintro e w3 ⟨rfl, hb3⟩
        have HB3 := hide (bthen HB0.out hb3)
        clear hb3
        go_wp2
        go_ret2
        exact ⟨by rw [HSP.out]; simp, HB3.out⟩
      · rw [if_neg hkv] at HSP
        have hkb : ((k : Int) == vars) = false := by simpa using hkv
        go_wp2
        go_ret2
        exact ⟨by rw [HSP.out]; rfl, HB0.out⟩
    · have hmb : ((m : Int) == 0) = false := by simp; omega
      have hmf : Hid (decide (m = 0) = false) := decide_eq_false hm0
      go_wp2
      go_ret2
      exact ⟨by rw [HSP.out, hmf.out, Bool.and_false]; rfl, HB0.out⟩
  · rw [if_neg h1] at HSP
    have d1 : (v == 1) = false := by simpa using h1
    by_cases h2 : v = 2
    · subst h2
      rw [if_pos rfl] at HSP
      by_cases hk0 : k = 0
      · subst hk0
        go_wp2_with fail
        generalize (w.alloc (.cells #[.int .i64 vars, .slice p n cap] 24)).alloc (.cells #[.int .i64 2, .slice q 0 qc, .slice r m rc] 27) = w1 at *
        refine (HPR.out w1 HB0.out).mono ?_
        rintro e w3 ⟨rfl, hb3⟩
        have y0 := cell_later hb3 x0
        have y1 := cell_later hb3 x1
        have y4 := cell_later hb3 x4
        have HB3 := hide (bthen HB0.out hb3)
        clear hb3 x0 x1 x2 x3 x4
        by_cases hc0 : ck = 0
        · subst hc0
          have HH := hide (HPO.out rfl)
          clear HPO
          go_wp2_with fail
          refine (HH.out w3 HB3.out).mono ?_
          rintro e w4 ⟨b, rfl, hb, hb4⟩
          have HPB : Hid (pb = b) := by
            unfold Hid
            rw [Bool.eq_iff_iff, HPF.out, hb]
            exact ⟨fun h => h.2, fun h => ⟨by trivial, h⟩⟩
          have HB4 := hide (bthen HB3.out hb4)
          clear hb hb4
          go_wp2
          go_ret2
          exact ⟨by rw [HSP.out, HPB.out]; rfl, HB4.out⟩
        · have hcb : (ck == 0) = false := by simpa using hc0
          have HPB : Hid (pb = false) := by
            unfold Hid
            rw [Bool.eq_false_iff]
            intro h
            exact hc0 (HPF.out.1 h).1
          go_wp2
          go_ret2
          exact ⟨by rw [HSP.out, HPB.out]; rfl, HB3.out⟩
      · have hkb : ((k : Int) == 0) = false := by simp; omega
        have hkf : Hid (decide (k = 0) = false) := decide_eq_false hk0
        go_wp2
        go_ret2
        exact ⟨by rw [HSP.out, hkf.out]; rfl, HB0.out⟩
    · rw [if_neg h2] at HSP
      have d2 : (v == 2) = false := by simpa using h2
      have hmz : Hid (((m : Int) == 0) = decide (m = 0)) := by unfold Hid; rw [Bool.eq_iff_iff]; simp
      by_cases h3 : v = 3
      · subst h3
        rw [if_pos rfl] at HSP
        by_cases hk0 : k = 0
        · subst hk0
          go_wp2
          go_ret2
          exact ⟨by rw [HSP.out, ← hmz.out]; rfl, HB0.out⟩
        · have hkf : Hid (decide (k = 0) = false) := decide_eq_false hk0
          have hkb : ((k : Int) == 0) = false := by simp; omega
          go_wp2
          go_ret2
          exact ⟨by rw [HSP.out, hkf.out]; rfl, HB0.out⟩
      · rw [if_neg h3] at HSP
        have d3 : (v == 3) = false := by simpa using h3
        go_wp2
        go_ret2
        exact ⟨by rw [HSP.out]; rfl, HB0.out⟩
end Go.Proofs.YtkinmangilbeeaaGreatDoor.Sr
