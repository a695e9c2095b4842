/- ProofSound: the walk. -/
import Derived.Test.YtdlfjijfdibocaaPyM
namespace Go.Proofs.Ytdlfjijfdibocaa.Pf
open Go.RowKit Go.Maps Go.WideMaps
set_option maxRecDepth 100000

set_option maxHeartbeats 4000000 in
theorem sound_walk (vars : Int) (p q : Option Addr) (cap cq : Nat) (rs ps : List Row) (hl1 : rs.length ≤ 5864062014634) (hl2 : ps.length ≤ 5864062014634) (hin : ∀ r ∈ rs ++ ps, r.ns.length ≤ maxLen) (hp : p = none → cap = 0) (hq : q = none → cq = 0) (v : List Bool) (b : Option Addr) (bc : Nat) (hvl : v.length ≤ maxLen) (w : World) (hC : ClAt w p rs) (hD : ClAt w q ps) (hV : BoolsAt w b v) :
    Calls Try.prog 3 #[cval vars p rs.length cap, .slice q ps.length cq, .slice b v.length bc] w fun e w' => e = .returned (.bool true) ∧ Below w.heap.size w w' := by
  have HIN := hide hin
  have HC := hide hC
  have HD := hide hD
  have HV := hide hV
  have HVL := hide hvl
  have HPQ := hide (And.intro hp hq)
  obtain ⟨n, hn⟩ : ∃ n, rs.length = n := ⟨_, rfl⟩
  obtain ⟨m, hm⟩ : ∃ m, ps.length = m := ⟨_, rfl⟩
  obtain ⟨k, hk⟩ : ∃ k, v.length = k := ⟨_, rfl⟩
  have hB1 : Below w.heap.size w (w.alloc (.cells #[.int .i64 vars, .slice p n cap] 24)) := bal (Below.refl _ _) _
  have x0 : (w.alloc (.cells #[.int .i64 vars, .slice p n cap] 24)).cell? ⟨w.heap.size, 0, none⟩ = some (.int .i64 vars) := by simp [go_sem]
  have x1 : (w.alloc (.cells #[.int .i64 vars, .slice p n cap] 24)).cell? ⟨w.heap.size, 1, none⟩ = some (.slice p n cap) := by simp [go_sem]
  rw [hn, hm, hk]
  have HB1 := hide hB1
  have HN := hide (And.intro hn (And.intro hm hk))
  have hs : n + m ≤ 11728124029610 := by omega
  have hn1 : n ≤ 5864062014634 := by omega
  clear hin hC hD hV hvl hp hq hn hm hk hB1 hl1 hl2
  go_enter Try.func3, Try.ntmps3
  go_upto_region 1 with fail
  generalize hw1 : w.alloc (.cells #[.int .i64 vars, .slice p n cap] 24) = w1 at *
  have hsz : w.heap.size < w1.heap.size := by rw [← hw1]; simp
  clear hw1
  generalize hbx : w.heap.size = bx at *
  go_wp2_with fail
  refine (proofBegun_any w1).mono ?_
  rintro e w2 ⟨rfl, hb2⟩
  have HB2 : Hid (Below bx w w2) := HB1.out.trans (hb2.mono (by omega))
  have y0 := cell_later hb2 x0
  have y1 := cell_later hb2 x1
  have hs2 : bx < w2.heap.size := by have := hb2.size; omega
  clear hb2 x0 x1
  go_wp2_with fail
  refine (cnfBegun_any w2).mono ?_
  rintro e w3 ⟨rfl, hb3⟩
  have HB3 : Hid (Below bx w w3) := HB2.out.trans (hb3.mono (by omega))
  have z0 := cell_later hb3 y0
  have z1 := cell_later hb3 y1
  have hs3 : bx < w3.heap.size := by have := hb3.size; omega
  have HCK := hide (checkP_any vars p q cap cq rs ps (by rw [HN.out.1, HN.out.2.1]; exact hs) HIN.out HPQ.out.1 HPQ.out.2 w3 (HC.out.later (by rw [hbx]; exact HB3.out)) (HD.out.later (by rw [hbx]; exact HB3.out)))
  rw [HN.out.1, HN.out.2.1] at HCK
  clear hb3 y0 y1
  go_wp2_with fail
  refine HCK.out.mono ?_
  unfold CkOut
  rintro e w4 ⟨bb, rfl, hbb, hb4⟩
  have HB4 : Hid (Below bx w w4) := HB3.out.trans (hb4.mono (by omega))
  have u0 := cell_later hb4 z0
  have u1 := cell_later hb4 z1
  have hs4 : bx < w4.heap.size := by have := hb4.size; omega
  clear hb4 z0 z1 HCK
  have HBB := hide hbb
  clear hbb
  generalize hE : chkC vars (numsOf rs ++ numsOf ps) = E at *
  have HE := hide hE
  clear hE
  by_cases he : E = 0
  · subst he
    cases bb
    · clear u0 u1
      go_wp2_with fail
      go_ret
      exact ⟨rfl, by rw [hbx]; exact HB4.out⟩
    · have HOK := hide (HBB.out.1 rfl).2
      have HHO := hide (holds_any vars p cap rs (by rw [HN.out.1]; omega) (fun r hr => HIN.out r (List.mem_append.2 (.inl hr))) v b bc HVL.out w4 (HC.out.later (by rw [hbx]; exact HB4.out)) (HV.out.later (by rw [hbx]; exact HB4.out)))
      rw [HN.out.1, HN.out.2.2] at HHO
      have HNO : Hid (hoB vars (numsOf rs) v = false) := by
        cases hh : hoB vars (numsOf rs) v
        · rfl
        · exfalso
          unfold hoB at hh
          split at hh
          · refine sound (fun d hd x hx => ?_) HOK.out ((holds_iff v _).1 hh)
            exact ((chkC_zero HE.out).2.2.2 d hd).2 x hx |>.1
          · cases hh
      rw [HNO.out] at HHO
      generalize hoE vars (numsOf rs) v = E2 at *
      go_wp2_with fail
      refine HHO.out.mono ?_
      rintro e w5 ⟨rfl, hb5⟩
      have HB5 : Hid (Below bx w w5) := HB4.out.trans (hb5.mono (by omega))
      clear hb5 u0 u1 HHO
      by_cases he2 : E2 = 0
      · subst he2
        go_wp2_with fail
        go_ret
        exact ⟨rfl, by rw [hbx]; exact HB5.out⟩
      · have heb : (E2 == 0) = false := by simpa using he2
        have hen : (E2 != 0) = true := by simpa using he2
        go_wp2_with fail
        go_ret
        exact ⟨rfl, by rw [hbx]; exact HB5.out⟩
  · have heb : (E == 0) = false := by simpa using he
    have hen : (E != 0) = true := by simpa using he
    clear u0 u1
    go_wp2_with fail
    go_ret
    exact ⟨rfl, by rw [hbx]; exact HB4.out⟩
end Go.Proofs.Ytdlfjijfdibocaa.Pf
