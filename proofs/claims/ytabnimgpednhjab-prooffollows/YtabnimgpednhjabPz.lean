/- ProofFollows: the walk. -/
import Derived.Test.YtabnimgpednhjabPy
import Derived.Test.YtabnimgpednhjabQc
namespace Go.Proofs.Ytabnimgpednhjab.Pf
open Go.RowKit Go.Maps Go.WideMaps
set_option maxRecDepth 100000

set_option maxHeartbeats 4000000 in
theorem follows_walk (vars : Int) (p q : Option Addr) (cap cq : Nat) (rs : List Row) (c : List Int) (hl : rs.length ≤ 8796093022208) (hin : ∀ r ∈ rs, r.ns.length ≤ maxLen) (hcl : c.length ≤ maxLen) (w : World) (hC : ClAt w p rs) (hI : IntsAt w q c) :
    Calls Try.prog 8 #[cval vars p rs.length cap, .slice q c.length cq] w fun e w' => e = .returned (.bool true) ∧ Below w.heap.size w w' := by
  have HIN := hide hin
  have HCL := hide hcl
  have HC := hide hC
  have HI := hide hI
  obtain ⟨n, hn⟩ : ∃ n, rs.length = n := ⟨_, rfl⟩
  obtain ⟨m, hm⟩ : ∃ m, c.length = m := ⟨_, rfl⟩
  have hB1 : Below w.heap.size w (w.alloc (.cells #[.int .i64 vars, .slice p n cap] 47)) := bal (Below.refl _ _) _
  have x0 : (w.alloc (.cells #[.int .i64 vars, .slice p n cap] 47)).cell? ⟨w.heap.size, 0, none⟩ = some (.int .i64 vars) := by simp [go_sem]
  have x1 : (w.alloc (.cells #[.int .i64 vars, .slice p n cap] 47)).cell? ⟨w.heap.size, 1, none⟩ = some (.slice p n cap) := by simp [go_sem]
  have HFW := hide (followsW_any vars p q cap cq rs c hl hin hcl _ (hC.later hB1) (hI.later hB1))
  rw [hn, hm] at HFW
  rw [hn, hm]
  have HB1 := hide hB1
  have HN := hide (And.intro hn hm)
  have hl' : n ≤ 8796093022208 := by omega
  clear hin hcl hC hI hn hm hB1
  go_enter Try.func8, Try.ntmps8
  go_upto_region 1 with fail
  generalize hw1 : w.alloc (.cells #[.int .i64 vars, .slice p n cap] 47) = w1 at *
  have hsz : w.heap.size < w1.heap.size := by rw [← hw1]; simp
  clear hw1
  generalize hbx : w.heap.size = bx at *
  go_wp2_with fail
  refine HFW.out.mono ?_
  unfold FwOut
  rintro e w2 ⟨b, rfl, hb, hb2⟩
  have HB2 : Hid (Below bx w w2) := HB1.out.trans (hb2.mono (by omega))
  have y0 := cell_later hb2 x0
  have y1 := cell_later hb2 x1
  have HBB := hide hb
  have hs2 : bx < w2.heap.size := by have := hb2.size; omega
  have HCK := hide (checkClauses_any vars p cap rs hl HIN.out w2 (HC.out.later (by rw [hbx]; exact HB2.out)))
  rw [HN.out.1] at HCK
  clear hb hb2 x0 x1 HFW
  generalize hF : folE vars (numsOf rs) c = F at *
  have HF := hide hF
  clear hF
  go_wp2_with fail
  refine HCK.out.mono ?_
  rintro e w3 ⟨rfl, hb3⟩
  have HB3 : Hid (Below bx w w3) := HB2.out.trans (hb3.mono (by omega))
  have hs3 : bx < w3.heap.size := by have := hb3.size; omega
  have z0 := cell_later hb3 y0
  have z1 := cell_later hb3 y1
  clear hb3 y0 y1 HCK
  by_cases he : chkC vars (numsOf rs) = 0
  · have hFr : F = rowE vars c := by rw [← HF.out]; unfold folE; rw [he]; simp
    rw [he]
    obtain ⟨v1, v2, v3, v4⟩ := chkC_zero he
    rw [numsOf_len, HN.out.1] at v3
    have HCC := hide (checkClause_any vars v1 v2 q cq c HCL.out w3 (HI.out.later (by rw [hbx]; exact HB3.out)))
    rw [HN.out.2] at HCC
    have hxr : ∀ r ∈ rs, r.ns.length ≤ 200 ∧ ∀ x ∈ r.ns, Num vars x := fun r hr => v4 r.ns (List.mem_map.2 ⟨r, hr, rfl⟩)
    have HV := hide (And.intro (And.intro v1 v2) (And.intro v3 hxr))
    clear v1 v2 v3 v4 hxr he
    subst hFr
    go_wp2_with fail
    refine HCC.out.mono ?_
    rintro e w' ⟨rfl, hw'⟩
    obtain rfl : w3 = w' := hw'.symm
    clear hw' HCC
    by_cases he2 : rowE vars c = 0
    · rw [he2]
      obtain ⟨u1, u2⟩ := row_zero he2
      have HFO := hide (followsOf_any vars HV.out.1 w3 p q cap cq rs c u1 (by rw [HN.out.1]; exact HV.out.2.1) HV.out.2.2 u2 (HC.out.rows.later (by rw [hbx]; exact HB3.out)) (HC.out.inn.later (by rw [hbx]; exact HB3.out)) (HI.out.later (by rw [hbx]; exact HB3.out)))
      rw [HN.out.1, HN.out.2] at HFO
      have HE2 := hide he2
      clear u1 u2 he2
      go_wp2_with fail
      refine HFO.out.mono ?_
      rintro e w4 ⟨b4, rfl, hb4, hbel⟩
      have HB4 : Hid (Below bx w w4) := HB3.out.trans (hbel.mono (by omega))
      obtain rfl : b = b4 := by
        have h1 := HBB.out
        rw [HE2.out] at h1
        have h2 : b = true ↔ b4 = true := h1.trans ⟨fun h => hb4.2 h.2, fun h => ⟨rfl, hb4.1 h⟩⟩
        cases b <;> cases b4 <;> simp at h2 ⊢
      have hs4 : bx < w4.heap.size := by have := hbel.size; omega
      clear hb4 hbel HFO z0 z1
      go_wp2_with fail
      refine (proofBegun_any w4).mono ?_
      rintro e w5 ⟨rfl, hb5⟩
      have HB5 : Hid (Below bx w w5) := HB4.out.trans (hb5.mono (by omega))
      clear hb5
      cases b
      · go_wp2_with fail
        go_ret
        exact ⟨rfl, by rw [hbx]; exact HB5.out⟩
      · go_wp2_with fail
        go_ret
        exact ⟨rfl, by rw [hbx]; exact HB5.out⟩
    · have heb : (rowE vars c == 0) = false := by simpa using he2
      obtain rfl : b = false := by
        cases b with
        | false => rfl
        | true => exact absurd (HBB.out.1 rfl).1 he2
      generalize rowE vars c = E at *
      clear z0 z1
      go_wp2_with fail
      refine (proofBegun_any w3).mono ?_
      rintro e w5 ⟨rfl, hb5⟩
      have HB5 : Hid (Below bx w w5) := HB3.out.trans (hb5.mono (by omega))
      clear hb5
      go_wp2_with fail
      go_ret
      exact ⟨by simp, by rw [hbx]; exact HB5.out⟩
  · have hFr : F = chkC vars (numsOf rs) := by rw [← HF.out]; unfold folE; rw [if_pos he]
    subst hFr
    have heb : (chkC vars (numsOf rs) == 0) = false := by simpa using he
    obtain rfl : b = false := by
      cases b with
      | false => rfl
      | true => exact absurd (HBB.out.1 rfl).1 he
    generalize chkC vars (numsOf rs) = E at *
    clear z0 z1
    go_wp2_with fail
    refine (proofBegun_any w3).mono ?_
    rintro e w5 ⟨rfl, hb5⟩
    have HB5 : Hid (Below bx w w5) := HB3.out.trans (hb5.mono (by omega))
    clear hb5
    go_wp2_with fail
    go_ret
    exact ⟨by simp, by rw [hbx]; exact HB5.out⟩
end Go.Proofs.Ytabnimgpednhjab.Pf
