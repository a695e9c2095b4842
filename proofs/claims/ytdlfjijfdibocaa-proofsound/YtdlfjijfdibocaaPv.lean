/- Follows: the walk. -/
import Derived.Test.YtdlfjijfdibocaaPu
import Derived.Test.YtdlfjijfdibocaaCg
namespace Go.Proofs.Ytdlfjijfdibocaa.Pf
open Go.RowKit Go.Maps Go.WideMaps
set_option maxRecDepth 100000

/-- The error of Follows. -/
def folE (vars : Int) (L : List (List Int)) (c : List Int) : Int := if chkC vars L ≠ 0 then chkC vars L else rowE vars c
/-- What Follows leaves. -/
def FwOut (w : World) (vars : Int) (L : List (List Int)) (c : List Int) (e : Ending) (w' : World) : Prop :=
  ∃ b, e = .returned (.tuple #[.bool b, .int .i64 (folE vars L c)]) ∧ (b = true ↔ folE vars L c = 0 ∧ Confl L (negs c)) ∧ Below w.heap.size w w'
theorem chk_one {vars : Int} {L : List (List Int)} (h : chkC vars L = 0) (c : List Int) : chkC vars [c] = rowE vars c := by
  unfold chkC at *
  by_cases hb : btw vars 0 200000 = false
  · rw [if_pos hb] at h; cases h
  · rw [if_neg hb]
    simp only [List.length_singleton, Nat.not_lt.2 (show 1 ≤ 800000 by omega), if_false]
    have := firstE_drop vars [c] 0 (by simp)
    simp only [List.drop_zero, List.getElem_cons_zero] at this
    rw [this]
    split
    · rfl
    · rename_i h1
      have h2 : rowE vars c = 0 := Classical.not_not.1 h1
      rw [h2]; rfl
theorem numsOf_map (rs : List Row) : numsOf rs = rs.map (·.ns) := rfl
set_option maxHeartbeats 4000000 in
theorem followsW_any (vars : Int) (p q : Option Addr) (cap cq : Nat) (rs : List Row) (c : List Int) (hl : rs.length ≤ 8796093022208) (hin : ∀ r ∈ rs, r.ns.length ≤ maxLen) (hcl : c.length ≤ maxLen) (w : World) (hC : ClAt w p rs) (hI : IntsAt w q c) :
    Calls Try.prog 8 #[cval vars p rs.length cap, .slice q c.length cq] w (FwOut w vars (numsOf rs) c) := by
  have HIN := hide hin
  have HCL := hide hcl
  have HC := hide hC
  have HI := hide hI
  obtain ⟨n, hn⟩ : ∃ n, rs.length = n := ⟨_, rfl⟩
  obtain ⟨m, hm⟩ : ∃ m, c.length = m := ⟨_, rfl⟩
  have hB1 : Below w.heap.size w (w.alloc (.cells #[.int .i64 vars, .slice p n cap] 24)) := bal (Below.refl _ _) _
  have x0 : (w.alloc (.cells #[.int .i64 vars, .slice p n cap] 24)).cell? ⟨w.heap.size, 0, none⟩ = some (.int .i64 vars) := by simp [go_sem]
  have x1 : (w.alloc (.cells #[.int .i64 vars, .slice p n cap] 24)).cell? ⟨w.heap.size, 1, none⟩ = some (.slice p n cap) := by simp [go_sem]
  have HCK := hide (checkC_any vars p cap rs (by omega) hin _ (hC.later hB1))
  rw [hn] at HCK
  rw [hn, hm]
  have HB1 := hide hB1
  have HN := hide (And.intro hn hm)
  clear hin hcl hC hI hn hm hB1
  go_enter Try.func8, Try.ntmps8
  go_upto_region 1 with fail
  generalize hw1 : w.alloc (.cells #[.int .i64 vars, .slice p n cap] 24) = w1 at *
  have hsz : w.heap.size < w1.heap.size := by rw [← hw1]; simp
  clear hw1
  generalize hbx : w.heap.size = bx at *
  go_upto_region 2 with (go_at_call 10; refine HCK.out.mono ?_; rintro e w2 ⟨rfl, hb2⟩)
  have HB2 := hide hb2
  have y0 := cell_later hb2 x0
  have y1 := cell_later hb2 x1
  clear hb2 x0 x1
  have HB12 := hide (HB1.out.trans (HB2.out.mono (by have := HB1.out.size; omega)))
  have hbs : bx < w2.heap.size := by have := HB2.out.size; omega
  have HFE : Hid (∀ E, chkC vars (numsOf rs) = E → E ≠ 0 → folE vars (numsOf rs) c = E) := fun E h1 h2 => by unfold folE; rw [h1, if_pos h2]
  by_cases he : chkC vars (numsOf rs) = 0
  · rw [he]
    have HHE := hide he
    have hm1 := HN.out.2
    have hC3 : ClAt (w2.alloc (.cells #[.slice q m cq] 32)) (some ⟨w2.heap.size, 0, none⟩) [⟨q, c, cq⟩] := by
      refine ⟨fun _ => ⟨w2.heap.size, 0, rfl, fun i hi => ?_⟩, fun r hr => ?_⟩
      · obtain rfl : i = 0 := by simp at hi; exact hi
        simp only [List.getElem_cons_zero, Row.v, hm1]
        simp [go_sem]
      · obtain rfl : r = ⟨q, c, cq⟩ := by simpa using hr
        exact (HI.out.later (by rw [hbx]; exact HB12.out)).later (bal (Below.refl _ _) _)
    have hr1 : ∀ r ∈ [(⟨q, c, cq⟩ : Row)], r.ns.length ≤ maxLen := fun r hr => by
      obtain rfl : r = ⟨q, c, cq⟩ := by simpa using hr
      exact HCL.out
    have HCK2 := hide (checkC_any vars (some ⟨w2.heap.size, 0, none⟩) 1 [⟨q, c, cq⟩] (by simp) hr1 _ hC3)
    simp only [List.length_singleton] at HCK2
    rw [show chkC vars (numsOf [⟨q, c, cq⟩]) = rowE vars c from chk_one he c] at HCK2
    have HF3 : Hid (folE vars (numsOf rs) c = rowE vars c) := by unfold Hid folE; rw [he, if_neg (by simp)]
    have hb3 : Below w2.heap.size w2 (w2.alloc (.cells #[.slice q m cq] 32)) := bal (Below.refl _ _) _
    have HB3 := hide hb3
    have z0 := cell_later hb3 y0
    have z1 := cell_later hb3 y1
    clear hm1 hC3 hb3 HCK hr1
    go_upto_region 5 with (go_at_call 10; refine HCK2.out.mono ?_; rintro e w4 ⟨rfl, hb4⟩)
    have u0 := cell_later hb4 z0
    have u1 := cell_later hb4 z1
    have HB4 : Hid (Below bx w w4) := (HB12.out.trans (HB3.out.mono (by omega))).trans (hb4.mono (by have := HB3.out.size; omega))
    clear hb4 z0 z1 y0 y1 HCK2
    by_cases he2 : rowE vars c = 0
    · rw [he2]
      obtain ⟨v1, v2, v3, v4⟩ := chkC_zero HHE.out
      rw [numsOf_len] at v3
      obtain ⟨v5, v6⟩ := row_zero he2
      have hx : ∀ r ∈ rs, r.ns.length ≤ 200 ∧ ∀ x ∈ r.ns, Num vars x := fun r hr => v4 r.ns (List.mem_map.2 ⟨r, hr, rfl⟩)
      have HNW := hide (new_any vars v2 vars p cap rs v3 hx w4 (HC.out.later (by rw [hbx]; exact HB4.out)))
      rw [HN.out.1] at HNW
      have HV := hide (And.intro v2 (And.intro v3 (And.intro v5 v6)))
      have HE2 := hide he2
      clear v1 v2 v3 v4 v5 v6 hx he2
      go_upto_region 7 with fail
      go_wp2_with fail
      refine HNW.out.mono ?_
      rintro e w5 ⟨R, B, X, nS, nW, rfl, hb5, hB5, hX5, hI5, hl5, hs5, hc5, hn1, hn2⟩
      have hI6 : IntsAt w5 q c := (HI.out.later (by rw [hbx]; exact HB4.out)).later hB5
      have hsz4 : bx ≤ w4.heap.size := by have := HB4.out.size; omega
      have HFW := hide (follows_any w5 X R nS nW B hb5 vars _ hI5 hl5 hs5 HV.out.1 (by rw [List.length_map] at hc5; have := HV.out.2.1; omega) (by omega) (by omega) q cq c HV.out.2.2.1 HV.out.2.2.2 hI6 ?hq)
      case hq =>
        intro h0 a ha hXa
        obtain ⟨b, off, hqe, hcell⟩ := (HI.out.later (by rw [hbx]; exact HB4.out) : IntsAt w4 q c) h0
        rw [ha] at hqe
        injection hqe with hqe
        subst hqe
        have h1 := World.block_lt_of_cell? _ _ (hcell 0 h0)
        have h2 := hX5 _ hXa
        simp only at h1 h2
        omega
      rw [HN.out.2] at HFW
      have HB5 : Hid (Below bx w w5) := HB4.out.trans (hB5.mono hsz4)
      have HX5 := hide hX5
      clear hb5 hB5 hX5 hI5 hl5 hs5 hc5 hn1 hn2 hI6 HNW
      go_wp2_with fail
      refine HFW.out.mono ?_
      rintro e w6 ⟨b, B', X', nS', nW', rfl, hbc, hb6, hF6, _⟩
      have HB6 : Hid (Below bx w w6) := HB5.out.trans (hF6.below (base := bx) (by have := HB5.out.size; omega) (fun g hg => by have := HX5.out g hg; omega))
      have HBC := hide hbc
      clear hb6 hF6 hbc HFW
      go_wp2_with fail
      go_ret2
      refine ⟨b, by rw [HF3.out, HE2.out]; rfl, ⟨fun e => ⟨HF3.out.trans HE2.out, HBC.out.1 e⟩, fun e => HBC.out.2 e.2⟩, by rw [hbx]; exact HB6.out⟩
    · have heb : (rowE vars c == 0) = false := by simpa using he2
      have HE2 := hide he2
      generalize rowE vars c = E at *
      clear he2
      go_wp2_with fail
      go_ret2
      exact ⟨false, by rw [HF3.out]; rfl, ⟨(fun e => by cases e), fun e => absurd (HF3.out.symm.trans e.1) HE2.out⟩, by rw [hbx]; exact HB4.out⟩
  · have heb : (chkC vars (numsOf rs) == 0) = false := by simpa using he
    have HF3 := hide (HFE.out _ rfl he)
    have HE2 := hide he
    generalize chkC vars (numsOf rs) = E at *
    clear he
    go_wp2_with fail
    go_ret2
    exact ⟨false, by rw [HF3.out]; rfl, ⟨(fun e => by cases e), fun e => absurd (HF3.out.symm.trans e.1) HE2.out⟩, by rw [hbx]; exact HB12.out⟩
end Go.Proofs.Ytdlfjijfdibocaa.Pf
