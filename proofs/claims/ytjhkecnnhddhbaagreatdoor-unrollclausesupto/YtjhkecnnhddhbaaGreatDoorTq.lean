/- The plain texts of steps: StepClauses. -/
import Derived.Test.YtjhkecnnhddhbaaGreatDoorTp
import Derived.Deep.CutRange
import Derived.Deep.CutBlock
import Derived.Deep.RegionHeld3
namespace Go.Proofs.YtjhkecnnhddhbaaGreatDoor
open Go.RowKit Go.Maps Go.WideMaps
set_option maxRecDepth 100000
set_option autoImplicit false

def loadA : Op := .load 28 (.tmp 48)
theorem loadA_fold : Op.load 28 (.tmp 48) = loadA := rfl
theorem loadA_is : loadA = Op.load 28 (.tmp 48) := rfl
attribute [local go_sem ↓] loadA_is
section
attribute [-go_sem] Builtin.append_
set_option maxHeartbeats 16000000 in
theorem stepC_any (C : Ci) (last : Nat) (begun : Bool) (w : World) (hok : COk w C last) (HBG : Hid (begun = true → ∀ x ∈ C.i.ns, x = -1 ∨ x = 0 ∨ x = 1)) :
    Calls Tryz.prog 7 #[C.v, .int .i64 last, .bool begun, .bool false] w (StO w (((last : Int) + 1) * C.f) (stepL C last begun)) := by
  have hfe : C.ins + (C.ps.length : Int) = C.f := rfl
  have hvs := hok.vs
  have hff := hok.f0
  have hla := hok.la
  have hvv : C.f * ((last : Int) + 1) = ((last : Int) + 1) * C.f := Int.mul_comm _ _
  have hV0 : 0 ≤ C.f * ((last : Int) + 1) := Int.mul_nonneg hff.1 (by omega)
  have wf := wrap_id (x := C.f) (by omega) (by omega)
  have wl := wrap_id (x := (last : Int) + 1) (by omega) (by omega)
  have wv := wrap_id (x := C.f * ((last : Int) + 1)) (by omega) (by omega)
  obtain ⟨L, HLE⟩ : ∃ L : List (List Int), Hid (L = []) := ⟨[], rfl⟩
  have HPO : Hid (StO w (((last : Int) + 1) * C.f) (stepL C last begun) = StO w (C.f * ((last : Int) + 1)) (L ++ stepsL (fun t => andsT C t C.ps.length) (last + 1) ++ stepsL (bondsT C) last ++ begB C begun ++ stepsL (holdsT C) (last + 1) ++ badC C last)) := by
    unfold Hid
    rw [hvv, HLE.out]
    unfold stepL begB
    simp only [List.nil_append, List.append_assoc]
  generalize StO w (((last : Int) + 1) * C.f) (stepL C last begun) = Q at *
  have hb1 : Below w.heap.size w ((((w.alloc (.cells #[.int .i64 C.ins, .slice C.p C.ps.length C.cap, .int .i64 C.a, .int .i64 C.s, .slice C.i.at' C.i.ns.length C.i.cap, .slice C.n.at' C.n.ns.length C.n.cap, .slice C.b.at' C.b.ns.length C.b.cap, .slice C.h.at' C.h.ns.length C.h.cap] 27)).alloc (.cells #[.int .i64 0, .slice none 0 0] 30)).alloc (.cells #[.int .i64 C.f] 3)).alloc (.cells #[.int .i64 (C.f * ((last : Int) + 1)), .slice none 0 0] 30)) := bal (bal (bal (bal (Below.refl _ _) _) _) _) _
  have HX : Hid (Fx w ((((w.alloc (.cells #[.int .i64 C.ins, .slice C.p C.ps.length C.cap, .int .i64 C.a, .int .i64 C.s, .slice C.i.at' C.i.ns.length C.i.cap, .slice C.n.at' C.n.ns.length C.n.cap, .slice C.b.at' C.b.ns.length C.b.cap, .slice C.h.at' C.h.ns.length C.h.cap] 27)).alloc (.cells #[.int .i64 0, .slice none 0 0] 30)).alloc (.cells #[.int .i64 C.f] 3)).alloc (.cells #[.int .i64 (C.f * ((last : Int) + 1)), .slice none 0 0] 30)) w.heap.size (w.heap.size + 1) (w.heap.size + 1 + 1) (w.heap.size + 1 + 1 + 1) C last) :=
    ⟨hok, hb1, by omega, by simp [go_sem], by simp [go_sem], by simp [go_sem], by simp [go_sem], by simp [go_sem], by simp [go_sem], by simp [go_sem], by simp [go_sem], by simp [go_sem],
      ((show Below (World.heap (((w.alloc (.cells #[.int .i64 C.ins, .slice C.p C.ps.length C.cap, .int .i64 C.a, .int .i64 C.s, .slice C.i.at' C.i.ns.length C.i.cap, .slice C.n.at' C.n.ns.length C.n.cap, .slice C.b.at' C.b.ns.length C.b.cap, .slice C.h.at' C.h.ns.length C.h.cap] 27)).alloc (.cells #[.int .i64 0, .slice none 0 0] 30)))).size (((w.alloc (.cells #[.int .i64 C.ins, .slice C.p C.ps.length C.cap, .int .i64 C.a, .int .i64 C.s, .slice C.i.at' C.i.ns.length C.i.cap, .slice C.n.at' C.n.ns.length C.n.cap, .slice C.b.at' C.b.ns.length C.b.cap, .slice C.h.at' C.h.ns.length C.h.cap] 27)).alloc (.cells #[.int .i64 0, .slice none 0 0] 30))) (((((w.alloc (.cells #[.int .i64 C.ins, .slice C.p C.ps.length C.cap, .int .i64 C.a, .int .i64 C.s, .slice C.i.at' C.i.ns.length C.i.cap, .slice C.n.at' C.n.ns.length C.n.cap, .slice C.b.at' C.b.ns.length C.b.cap, .slice C.h.at' C.h.ns.length C.h.cap] 27)).alloc (.cells #[.int .i64 0, .slice none 0 0] 30)).alloc (.cells #[.int .i64 C.f] 3)).alloc (.cells #[.int .i64 (C.f * ((last : Int) + 1)), .slice none 0 0] 30))) from bal (bal (Below.refl _ _) _) _).block _ (by simp)).trans (alloc_at (by simp)), by omega, by omega, by omega, by omega⟩
  have HS : Hid (Sc ((((w.alloc (.cells #[.int .i64 C.ins, .slice C.p C.ps.length C.cap, .int .i64 C.a, .int .i64 C.s, .slice C.i.at' C.i.ns.length C.i.cap, .slice C.n.at' C.n.ns.length C.n.cap, .slice C.b.at' C.b.ns.length C.b.cap, .slice C.h.at' C.h.ns.length C.h.cap] 27)).alloc (.cells #[.int .i64 0, .slice none 0 0] 30)).alloc (.cells #[.int .i64 C.f] 3)).alloc (.cells #[.int .i64 (C.f * ((last : Int) + 1)), .slice none 0 0] 30)) ((((w.alloc (.cells #[.int .i64 C.ins, .slice C.p C.ps.length C.cap, .int .i64 C.a, .int .i64 C.s, .slice C.i.at' C.i.ns.length C.i.cap, .slice C.n.at' C.n.ns.length C.n.cap, .slice C.b.at' C.b.ns.length C.b.cap, .slice C.h.at' C.h.ns.length C.h.cap] 27)).alloc (.cells #[.int .i64 0, .slice none 0 0] 30)).alloc (.cells #[.int .i64 C.f] 3)).alloc (.cells #[.int .i64 (C.f * ((last : Int) + 1)), .slice none 0 0] 30)) (w.heap.size + 1 + 1 + 1) (C.f * ((last : Int) + 1)) L) :=
    ⟨_, [], HLE.out.symm, cm_zero (by simp [go_sem]) (by simp [go_sem]) (by simp [go_sem]) (by simp [go_sem]), Below.refl _ _⟩
  have HL : Hid (L.length ≤ 600000000) := by rw [HLE.out]; simp [Hid]
  clear hok hb1 hvv hV0 hvs HLE
  unfold Ci.v circ
  simp only [Sl.v] at *
  go_enter Tryz.func7, Tryz.ntmps7
  go_upto_block 0 with fail
  generalize ((((w.alloc (.cells #[.int .i64 C.ins, .slice C.p C.ps.length C.cap, .int .i64 C.a, .int .i64 C.s, .slice C.i.at' C.i.ns.length C.i.cap, .slice C.n.at' C.n.ns.length C.n.cap, .slice C.b.at' C.b.ns.length C.b.cap, .slice C.h.at' C.h.ns.length C.h.cap] 27)).alloc (.cells #[.int .i64 0, .slice none 0 0] 30)).alloc (.cells #[.int .i64 C.f] 3)).alloc (.cells #[.int .i64 (C.f * ((last : Int) + 1)), .slice none 0 0] 30)) = w1 at *
  generalize w.heap.size + 1 + 1 + 1 = M at *
  generalize w.heap.size + 1 + 1 = F at *
  generalize w.heap.size + 1 = G at *
  generalize w.heap.size = B at *
  generalize hV : C.f * ((last : Int) + 1) = V at *
  clear wf wl wv hV hfe
  have hok := HX.out.ok
  have hla := hok.la
  have hpl := hok.pl
  have hi0 := hok.i0
  have hi1 := hok.i1
  have HTF : Hid (∀ t : Nat, t ≤ last → 0 ≤ (t : Int) * C.f ∧ (t : Int) * C.f + C.f ≤ 200000) := fun t ht => hok.tf ht
  have HPB : Hid (∀ k (h : k < C.ps.length), (2 ≤ C.ps[k].1 ∧ C.ps[k].1 ≤ 10000000) ∧ 2 ≤ C.ps[k].2 ∧ C.ps[k].2 ≤ 10000000) := fun k h => by
    obtain ⟨s1, s2, s3, s4⟩ := stand_two (hok.pr k h)
    omega
  have HCL : Hid (∀ t, t ≤ last + 1 → (L ++ stepsL (fun t => andsT C t C.ps.length) t).length ≤ 700000000) := fun t ht => by
    have := ands_le C t (by omega) hpl
    have := HL.out
    simp only [List.length_append]
    omega
  have HSU2 : Hid (∀ t : Nat, t ≤ last → stepsL (fun t => andsT C t C.ps.length) (t + 1) = stepsL (fun t => andsT C t C.ps.length) t ++ andP C.ins (t * C.f) C.ps C.ps.length) := fun t ht => by
    rw [stepsL_succ, andP_T C t _ (Nat.le_refl _) (fun i h => ⟨(HPB.out i h).1.1, (HPB.out i h).2.1⟩)]
  clear hok
  have HL9 := hide (HCL.out (last + 1) (Nat.le_refl _))
  go_cut [] from 13 to 57 (fun wx => Hid (Sc w1 wx M V (L ++ stepsL (fun t => andsT C t C.ps.length) (last + 1))))
  case rest =>
    go_step
    rw [HPO.out]
    exact st_bonds (by kernel_rfl) w w1 B G F M C last begun V _ wc HX hcut HL9 HBG
  case first =>
  clear HL9 HBG
  go_wp2_with fail
  go_loopw [13] (fun i wr => ∃ t : Nat, t ≤ last + 1 ∧ i = .int .i64 t ∧ Hid (Sc w1 wr M V (L ++ stepsL (fun t => andsT C t C.ps.length) t))) (fun i _ => last + 1 - (intOf i).toNat)
  case atStart => exact ⟨0, Nat.zero_le _, rfl, by simpa [stepsL, Hid] using HS.out⟩
  case round =>
    obtain ⟨t, ht, rfl, HR2⟩ := hrel
    by_cases hlt : t ≤ last
    · have hti : (t : Int) ≤ (last : Int) := by omega
      have htf := HTF.out t hlt
      obtain ⟨v, rs, hn, hc, hbm⟩ := HR2.out
      have hbd : Below wr.heap.size wr wr.drew := (Below.refl _ wr).drew
      have hMd : M < wr.drew.heap.size := Nat.lt_of_lt_of_le HR2.out.lt hbd.size
      have hbmd := hbm.trans (hbd.mono (Nat.le_of_lt HR2.out.lt))
      have HCD := hide (hc.below hbd)
      have md := HCD.out.c1
      have hl5 : rs.length + (andP C.ins (t * C.f) C.ps C.ps.length).length ≤ 2000000000 := by
        have h1 := HCL.out t (by omega)
        rw [← hn, numsOf_len] at h1
        rw [andP_len _ _ _ _ (Nat.le_refl _)]
        omega
      have HSU : Hid (∀ u, Below M w1 u → u.cell? ⟨B, 0, none⟩ = some (.int .i64 C.ins) ∧ u.cell? ⟨B, 1, none⟩ = some (.slice C.p C.ps.length C.cap) ∧ u.cell? ⟨F, 0, none⟩ = some (.int .i64 C.f)) := fun u hu => by
        have f9 := HX.out.at hu
        exact ⟨f9.x0, f9.x1, f9.xf⟩
      have HNX : Hid (numsOf rs ++ andP C.ins (t * C.f) C.ps C.ps.length = L ++ stepsL (fun t => andsT C t C.ps.length) (t + 1)) := by
        unfold Hid
        rw [hn, HSU2.out t hlt, List.append_assoc]
      have HMU := hide (fun (u : World) (hu : Below M w1 u) => andsP_any C.ins C.p C.ps C.cap (t * C.f) hi0 hi1 (by omega) (fun k h => ⟨⟨by have := (HPB.out k h).1.1; omega, (HPB.out k h).1.2⟩, by have := (HPB.out k h).2.1; omega, (HPB.out k h).2.2⟩) htf.1 (by omega) u (HX.out.at hu).at'.g)
      have wm := wrap_id (x := (t : Int) * C.f) (by omega) (by omega)
      clear hn hc
      generalize andP C.ins (t * C.f) C.ps C.ps.length = X at *
      go_wp2
      simp only [loadA_fold]
      go_region_held3 (fun w' => w'.cell? ⟨B, 0, none⟩ = some (.int .i64 C.ins) ∧ w'.cell? ⟨B, 1, none⟩ = some (.slice C.p C.ps.length C.cap) ∧ w'.cell? ⟨F, 0, none⟩ = some (.int .i64 C.f))
        (first | exact HSU.out _ hbs9 | exact HSU.out _ hbm9 | exact HSU.out _ hbm5 | exact HSU.out _ hbmd | go_keep)
        ((go_at_call 25; refine (HMU.out _ hbmd).mono ?_; intro e w5 hnew
          obtain ⟨p5, n5, cap5, rfl, hc5, hb5, hap⟩ := sc_new HCD.out hbmd hl5 hnew
          obtain ⟨p9, n9, c9, w9, hrun9, k1, kf, hsc9, hbm9⟩ := hap
          have hbm5 := hbmd.trans (hb5.mono (Nat.le_of_lt hMd))
          have m5 := hc5.c1
          have hbs9 := hsc9.bel))
      all_goals
        rename_i hHeld
        have HS9 : Hid (Sc w1 (w9.setCell ⟨M, 1, none⟩ (.slice p9 n9 c9)) M V (L ++ stepsL (fun t => andsT C t C.ps.length) (t + 1))) := by rw [← HNX.out]; exact hsc9
        clear hHeld hsc9 hbs9 hbm9 k1 kf hrun9 hb5 hc5 hbm5 m5 hnew md HCD hMd hbd hbmd hl5 HSU HNX HMU hbm
        generalize w9.setCell ⟨M, 1, none⟩ (.slice p9 n9 c9) = wz at *
        go_wp2
        go_roundw
        case rel => exact ⟨t + 1, by omega, by go_num, HS9⟩
        case measure => simp [intOf]; omega
    · obtain rfl : t = last + 1 := by omega
      have hnt : ¬ ((last + 1 : Nat) : Int) ≤ (last : Int) := by omega
      go_wp2
      go_meet
      exact HR2
end
end Go.Proofs.YtjhkecnnhddhbaaGreatDoor
