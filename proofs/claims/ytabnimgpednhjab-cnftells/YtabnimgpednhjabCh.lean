/- CnfTells: the walk. -/
import Derived.Test.YtabnimgpednhjabCg
import Derived.Test.YtabnimgpednhjabGu
namespace Go.Proofs.Ytabnimgpednhjab
open Go.RowKit Go.Maps Go.WideMaps
set_option maxRecDepth 100000

theorem evens_succ (k : Nat) : evens (k + 1) = evens k ++ [2 * ((k : Int) + 1)] := rfl
theorem evens_no (k : Nat) (e : Int) (h : 2 * (1 + (k : Int)) ≤ e) : (evens k).any (noLit e) = false := by
  rw [List.any_eq_false]
  intro x hx
  have := evens_mem k x hx
  simp [noLit]
  omega
theorem st_all {m : Nat} {ps : List (Int × Int)} (hst : stN m ps ps.length = true) : ∀ k (h : k < ps.length), standB ps[k].1 ps[k].2 (1 + m + k) = true := fun k h => by
  have := stN_down (k := k + 1) hst (by omega)
  rw [stN_succ h, Bool.and_eq_true] at this
  exact this.2
theorem all_take (l : List Bool) (k : Nat) (h : k < l.length) : (l.take (k + 1)).all id = ((l.take k).all id && l[k]) := by
  rw [List.take_succ_eq_append_getElem h, List.all_append]
  simp
theorem map_all (f : Int → Bool) (l : List Int) : (l.map f).all id = l.all f := by
  induction l with
  | nil => rfl
  | cons a t ih => simp

set_option maxRecDepth 100000 in
set_option maxHeartbeats 8000000 in
theorem tells_walk (ins : Int) (p : Option Addr) (cap : Nat) (ps : List (Int × Int)) (hwf : WfP ps) (hl : ps.length ≤ 8796093021952) (r : Option Addr) (rc : Nat) (rs : List Int) (hll : rs.length ≤ 17592186043904)
    (q : Option Addr) (qc : Nat) (bs : List Bool) (hbl : bs.length ≤ maxLen) (hqn : q = none → qc = 0) (u : Option Addr) (uc : Nat) (vs : List Bool) (hvl : vs.length ≤ maxLen) (hun : u = none → uc = 0) (huc : vs.length ≤ uc)
    (w : World) (hP : PairsAt w p ps) (hI : IntsAt w r rs) (hB : BoolsAt w q bs) (hV : BoolsAt w u vs) :
    Calls Try.prog 7 #[gval ins p ps.length cap, .slice r rs.length rc, .slice q bs.length qc, .slice u vs.length uc] w fun e w' => e = .returned (.bool true) ∧ Below w.heap.size w w' := by
  have hB0 : Below w.heap.size w (w.alloc (.cells #[.int .i64 ins, .slice p ps.length cap] 24)) := bal (Below.refl _ _) _
  have H1 := hide (fun (w' : World) (hb : Below w.heap.size w w') => of_any ins p cap ps hwf (by omega) rs r rc (by omega) w' (hP.later hb) (hI.later hb))
  have HB0 := hide hB0
  have HP := hide hP
  have HI := hide hI
  have HBB := hide hB
  have HVV := hide hV
  have HQN := hide hqn
  have HUN := hide hun
  have HUC := hide huc
  have HWF := hide hwf
  have HBL := hide hbl
  have HVL := hide hvl
  clear hP hwf hB0 hB hqn hbl hI hV hun huc hvl
  go_enter Try.func7, Try.ntmps7
  go_wp2_with fail
  refine (cnfBegun_any _).mono ?_
  rintro e w1 ⟨rfl, hb1⟩
  have q0 := cell_later hb1 (a := ⟨w.heap.size, 0, none⟩) (v := .int .i64 ins) (by simp [go_sem])
  have q1 := cell_later hb1 (a := ⟨w.heap.size, 1, none⟩) (v := .slice p ps.length cap) (by simp [go_sem])
  have HB1 := hide (bthen HB0.out hb1)
  clear hb1 HB0
  go_wp2_with fail
  refine (begun_any _).mono ?_
  rintro e w2 ⟨rfl, hb2⟩
  have q0' := cell_later hb2 q0
  have q1' := cell_later hb2 q1
  have HB2 := hide (bthen HB1.out hb2)
  clear hb2 HB1 q0 q1
  go_wp2_with fail
  refine (H1.out _ HB2.out).mono ?_
  rintro e w3 ⟨⟨pv, cv, rws, rfl, hnum, hcl⟩, hb3⟩
  by_cases hE : ofE ins ps rs = 0
  · have HOE := hide hE
    obtain ⟨hc, hn, hf⟩ := ofE_zero hE
    obtain ⟨h0, h1, hlen, hst, hd⟩ := chk_zero hc
    obtain ⟨f1, f2⟩ := fit_zero hf
    obtain ⟨m, rfl⟩ : ∃ m : Nat, ins = m := ⟨ins.toNat, by omega⟩
    rw [hE] at hnum ⊢
    have HSH := hide (cnf_short HOE.out (rws := rws) hnum)
    have hrl : rws.length ≤ 800000 := by rw [← numsOf_len, hnum]; show (cnfC _ _ _).length ≤ _; rw [cnf_len]; omega
    have HNUM : Hid (numsOf rws = cnfC m ps rs) := hnum
    have hVe : ofV 0 ((m : Int) + ps.length) = (m : Int) + ps.length := rfl
    rw [hVe]
    obtain ⟨N, hN⟩ : ∃ N : Nat, (N : Int) = (m : Int) + ps.length := ⟨m + ps.length, by omega⟩
    have HN := hide hN
    have hbX : Below w3.heap.size w3 (w3.alloc (.cells #[.int .i64 ((m : Int) + ps.length), .slice pv rws.length cv] 47)) := bal (Below.refl _ _) _
    have g0 := cell_later (bthen hb3 hbX) q0'
    have g1 := cell_later (bthen hb3 hbX) q1'
    have x0 : (w3.alloc (.cells #[.int .i64 ((m : Int) + ps.length), .slice pv rws.length cv] 47)).cell? ⟨w3.heap.size, 0, none⟩ = some (.int .i64 ((m : Int) + ps.length)) := by simp [go_sem]
    have x1 : (w3.alloc (.cells #[.int .i64 ((m : Int) + ps.length), .slice pv rws.length cv] 47)).cell? ⟨w3.heap.size, 1, none⟩ = some (.slice pv rws.length cv) := by simp [go_sem]
    have HB4 := hide (bthen HB2.out (bthen hb3 hbX))
    have HCL := hide (hcl.later hbX)
    have HST := hide (st_all hst)
    have HCE := hide hc
    have HNL := hide hn
    have hNm : N ≤ 200000 := by omega
    clear hb3 hbX q0' q1' HB2 hnum hcl hE hc hn hf hst hd hVe H1 hN
    go_wp2
    generalize w3.alloc (.cells #[.int .i64 ((m : Int) + ps.length), .slice pv rws.length cv] 47) = w4 at *
    generalize hC : w3.heap.size = C at *
    clear hC
    go_loopw [11, 12] (fun v i wr => ∃ k : Nat, k ≤ N ∧ i = .int .i64 ((k : Int) + 1) ∧ wr.ownsRow w4.heap.size 3 1 v (evens k).length ((evens k).map (Value.int .i64)) ∧ Below w4.heap.size w4 wr) (fun _ i _ => N + 1 - (intOf i).toNat)
    case atStart => exact ⟨0, Nat.zero_le _, rfl, World.ownsRow_nil _ _ _ _, Below.refl _ _⟩
    case round =>
      obtain ⟨k, hk, rfl, hown, hbw⟩ := hrel
      have hszw := hbw.size
      have y0 := cell_later hbw x0
      have y1 := cell_later hbw x1
      by_cases hlt : k < N
      · have hki : (k : Int) + 1 ≤ (m : Int) + ps.length := by have := HN.out; omega
        have HOW := hide hown
        have HBW := hide hbw
        have HUL := hide (evens_len k)
        have HUS := hide (evens_succ k)
        clear hown hbw
        generalize evens k = us at *
        go_wp2_with (at_builtin; refine wpList_append_ints rfl _ _ rfl w4.heap.size _ us [2 * ((k : Int) + 1)] rfl (HOW.out.alloc _) _ _ rfl (ints_one _) (fun h => by cases h) (by simp; rw [HUL.out]; omega) (by simp; omega) ?_)
        intro v' w6 hown6 hg6
        have HB6 := hide ((bal HBW.out _).grown hg6 (by simp; omega) (fun j hj => (HOW.out.lt j hj).1))
        have hown7 : w6.ownsRow w4.heap.size 3 1 v' (evens (k + 1)).length ((evens (k + 1)).map (Value.int .i64)) := by rw [HUS.out]; simpa using hown6
        clear hown6 hg6
        go_wp2
        go_roundw
        case rel => exact ⟨k + 1, by omega, by simp, hown7, HB6.out⟩
        case measure => simp [intOf]; omega
      · obtain rfl : k = N := by omega
        have hki : ¬ (k : Int) + 1 ≤ (m : Int) + ps.length := by have := HN.out; omega
        have g0' := cell_later hbw g0
        have g1' := cell_later hbw g1
        obtain ⟨pl, cl, rfl, hil, hnl0⟩ := owns_ints hown
        have HUL := hide (evens_len k)
        have HUN2 := hide (evens_no k (2 * (1 + (m : Int) + ps.length)) (by have := HN.out; omega))
        have HB5 := hide (bthen HB4.out hbw)
        have HCL5 := hide (HCL.out.later hbw)
        have HIL5 := hide hil
        clear hown hbw hil hnl0 HB4 HCL x0 x1 g0 g1 hlt hk
        have hrx : Below wr.heap.size wr wr := Below.refl _ _
        obtain ⟨L, hL⟩ : ∃ L, L = cnfC (m : Int) ps rs := ⟨_, rfl⟩
        have HHO : Hid (∀ (x : List Bool) (xp : Option Addr) (xc : Nat), x.length ≤ maxLen → ∀ w', Below wr.heap.size wr w' → BoolsAt w' xp x → Calls Try.prog 25 #[cval ((m : Int) + ps.length) pv rws.length cv, .slice xp x.length xc] w' fun e w'' => e = .returned (.tuple #[.bool (hoB ((m : Int) + ps.length) L x), .int .i64 (hoE ((m : Int) + ps.length) L x)]) ∧ Below w'.heap.size w' w'') := fun x xp xc hx w' hb hbx => by
          have := holds_any ((m : Int) + ps.length) pv cv rws (by omega) HSH.out x xp xc hx w' (HCL5.out.later hb) hbx
          rw [HNUM.out, ← hL] at this
          exact this
        have HHE : Hid (∀ x : List Bool, hoE ((m : Int) + ps.length) L x = if (x.length : Int) ≠ (m : Int) + ps.length then 1 else 0) := fun x => by
          unfold hoE
          rw [if_neg (by rw [hL, cnf_chk HOE.out]; simp)]
        have HHB : Hid (∀ x : List Bool, x.length = k → hoE ((m : Int) + ps.length) L x = 0 ∧ hoB ((m : Int) + ps.length) L x = holdsL x L) := fun x hx => by
          have h1 : hoE ((m : Int) + ps.length) L x = 0 := by rw [HHE.out, if_neg (by rw [hx, HN.out]; simp)]
          exact ⟨h1, by unfold hoB; rw [if_pos h1]⟩
        have HEG : Hid (∀ (bb : List Bool) (ls : List Int), ls.any (noLit (2 * (1 + (m : Int) + ps.length))) = false → evE m ps bb ls = if (bb.length : Int) ≠ m then 1 else 0) := fun bb ls h => by
          unfold evE
          rw [if_neg (by simpa using HCE.out), h]
          rfl
        have HTE : Hid (vs.length = k → holdsL vs L = true → ∀ w', Below wr.heap.size wr w' → Calls Try.prog 16 #[gval m p ps.length cap, .slice u m uc, .slice pl (evens k).length cl] w' fun e w'' => ∃ pz cz, e = .returned (.tuple #[.slice pz vs.length cz, .int .i64 0]) ∧ BoolsAt w'' pz vs ∧ Below w'.heap.size w' w'') := fun hvn hho w' hb => by
          have hmv : m ≤ vs.length := by have := HN.out; omega
          have hlt : (vs.take m).length = m := by rw [List.length_take]; omega
          have hbt : BoolsAt w' u (vs.take m) := fun h => by
            obtain ⟨b, off, e, hc⟩ := (HVV.out.later (bthen HB5.out hb)) (by rw [hlt] at h; omega)
            exact ⟨b, off, e, fun i hi => by rw [hc i (by rw [hlt] at hi; omega), List.getElem_take]⟩
          have h := eval_any m p cap ps HWF.out (by omega) u uc (vs.take m) (by rw [hlt]; unfold maxLen; omega) HUN.out pl cl (evens k) (by rw [evens_len]; omega) w' (HP.out.later (bthen HB5.out hb)) hbt (HIL5.out.later hb)
          have he : evE m ps (vs.take m) (evens k) = 0 := by rw [HEG.out _ _ HUN2.out, if_neg (by rw [hlt]; simp)]
          have ht : nodesV (vs.take m) ps ps.length = false :: vs := hold_told vs m ps rs (by have := HN.out; omega) HST.out (by rw [← hL]; exact hho)
          have hv : evL ps (vs.take m) (evens k) 0 = vs := by
            show (evens k).map (litV (nodesV (vs.take m) ps ps.length)) = vs
            rw [ht, evens_lit vs k (by omega), List.take_of_length_le (by omega)]
          rw [he, hv, hlt] at h
          exact h
        by_cases hbi : bs.length = m
        · obtain ⟨t, ht1, ht2, _⟩ := nodesV_tail bs ps ps.length
          have htk : t.length = k := by have := HN.out; omega
          have HEV1 : Hid (∀ w', Below wr.heap.size wr w' → Calls Try.prog 16 #[gval m p ps.length cap, .slice q bs.length qc, .slice pl (evens k).length cl] w' fun e w'' => ∃ pz cz, e = .returned (.tuple #[.slice pz t.length cz, .int .i64 0]) ∧ BoolsAt w'' pz t ∧ Below w'.heap.size w' w'') := fun w' hb => by
            have h := eval_any m p cap ps HWF.out (by omega) q qc bs HBL.out HQN.out pl cl (evens k) (by rw [evens_len]; omega) w' (HP.out.later (bthen HB5.out hb)) (HBB.out.later (bthen HB5.out hb)) (HIL5.out.later hb)
            have he : evE m ps bs (evens k) = 0 := by rw [HEG.out _ _ HUN2.out, if_neg (by rw [hbi]; simp)]
            have hv : evL ps bs (evens k) 0 = t := by
              show (evens k).map (litV (nodesV bs ps ps.length)) = t
              rw [ht1, evens_lit t k (by omega), List.take_of_length_le (by omega)]
            rw [he, hv] at h
            exact h
          obtain ⟨T, hT⟩ : ∃ T, T = rs.map (litV (false :: t)) := ⟨_, rfl⟩
          have HEV2 : Hid (∀ w', Below wr.heap.size wr w' → Calls Try.prog 16 #[gval m p ps.length cap, .slice q bs.length qc, .slice r rs.length rc] w' fun e w'' => ∃ pz cz, e = .returned (.tuple #[.slice pz T.length cz, .int .i64 0]) ∧ BoolsAt w'' pz T ∧ Below w'.heap.size w' w'') := fun w' hb => by
            have h := eval_any m p cap ps HWF.out (by omega) q qc bs HBL.out HQN.out r rc rs (by omega) w' (HP.out.later (bthen HB5.out hb)) (HBB.out.later (bthen HB5.out hb)) (HI.out.later (bthen HB5.out hb))
            have he : evE m ps bs rs = 0 := by rw [HEG.out _ _ HNL.out, if_neg (by rw [hbi]; simp)]
            have hv : evL ps bs rs 0 = T := by
              show rs.map (litV (nodesV bs ps ps.length)) = T
              rw [ht1, hT]
            rw [he, hv] at h
            exact h
          have HTH : Hid (holdsL t L = T.all id) := by
            have := tells_hold bs ps rs (by rw [hbi]; exact HST.out) (fun x hx => (lits_in HNL.out x hx).1) t ht1
            rw [hbi] at this
            show holdsL t L = T.all id
            rw [hL, this, hT, map_all, ht1]
          have hTl : T.length ≤ 17592186043904 := by rw [hT, List.length_map]; exact hll
          have HTM : Hid (t.length ≤ maxLen) := by show t.length ≤ maxLen; unfold maxLen; omega
          have HTK := hide htk
          clear hT ht1 ht2 hbi htk hL
          go_wp2_with fail
          refine (HEV1.out _ hrx).mono ?_
          rintro e w5 ⟨pr, cr, rfl, hbr, hb5⟩
          have G0 := cell_later hb5 g0'
          have G1 := cell_later hb5 g1'
          have C0 := cell_later hb5 y0
          have C1 := cell_later hb5 y1
          have HBR := hide hbr
          clear hbr
          go_wp2_with fail
          refine (HEV2.out _ hb5).mono ?_
          rintro e w6 ⟨pr2, cr2, rfl, hbr2, hb6⟩
          have g0 := cell_later hb6 G0
          have g1 := cell_later hb6 G1
          have c0 := cell_later hb6 C0
          have c1 := cell_later hb6 C1
          have HBR6 := hide (HBR.out.later hb6)
          have HBR2 := hide hbr2
          have HR6 := hide (bthen hb5 hb6)
          clear hbr2 hb5 hb6 G0 G1 C0 C1 g0' g1' y0 y1 HBR HEV1 HEV2 hrx
          go_wp2
          go_loopw [16, 17] (fun a i wq => ∃ j : Nat, j ≤ T.length ∧ i = .int .i64 j ∧ a = .bool ((T.take j).all id) ∧ wq = w6) (fun _ i _ => T.length - (intOf i).toNat)
          case atStart => exact ⟨0, Nat.zero_le _, rfl, by simp, rfl⟩
          case round =>
            obtain ⟨j, hj, rfl, rfl, rfl⟩ := hrel
            by_cases hlt : j < T.length
            · obtain ⟨tb, to, rfl, htc⟩ := HBR2.out (by omega)
              have ct := htc j hlt
              have hki2 : (j : Int) < (T.length : Int) := by omega
              have HS := hide (all_take T j hlt)
              clear htc
              generalize T[j] = x at *
              generalize (T.take j).all id = a at *
              cases a
              · have HS2 : Hid ((T.take (j + 1)).all id = false) := by rw [HS.out]; rfl
                go_wp2
                go_roundw
                case rel => exact ⟨j + 1, by omega, by go_num, by rw [HS2.out], trivial⟩
                case measure => simp [intOf]; omega
              · have HS2 : Hid ((T.take (j + 1)).all id = x) := by rw [HS.out]; rfl
                go_wp2
                go_roundw
                case rel => exact ⟨j + 1, by omega, by go_num, by rw [HS2.out], trivial⟩
                case measure => simp [intOf]; omega
            · obtain rfl : j = T.length := by omega
              rw [List.take_length]
              have HH7 := hide (HHO.out t pr cr HTM.out _ HR6.out HBR6.out)
              rw [(HHB.out t HTK.out).1, (HHB.out t HTK.out).2, HTH.out] at HH7
              generalize T.all id = al at *
              have hal : (al != al) = false := by cases al <;> rfl
              have hki2 : ¬ (T.length : Int) < (T.length : Int) := by omega
              go_wp2_with fail
              refine HH7.out.mono ?_
              rintro e w7 ⟨rfl, hb7⟩
              have G0 := cell_later hb7 g0
              have G1 := cell_later hb7 g1
              have C0 := cell_later hb7 c0
              have C1 := cell_later hb7 c1
              have HR := hide (bthen HR6.out hb7)
              clear hb7 g0 g1 c0 c1 HH7 HR6 HBR6 HBR2
              go_wp2_with fail
              refine (HHO.out vs u uc HVL.out _ HR.out (HVV.out.later (bthen HB5.out HR.out))).mono ?_
              rintro e w8 ⟨rfl, hb8⟩
              have k0 := cell_later hb8 G0
              have k1 := cell_later hb8 G1
              have HR8 := hide (bthen HR.out hb8)
              clear hb8 G0 G1 C0 C1
              by_cases hvn : vs.length = k
              · obtain ⟨e1, e2⟩ := HHB.out vs hvn
                rw [e1, e2]
                clear e1 e2
                cases hho : holdsL vs L
                · go_wp2
                  go_ret
                  exact ⟨rfl, bthen HB5.out HR8.out⟩
                · have HTE2 := hide (HTE.out hvn hho)
                  have hLc : m ≤ uc := by have h1 := HUC.out; have h2 := HN.out; omega
                  have hLc2 : (m : Int) ≤ (uc : Int) := by omega
                  clear hho
                  cases u with
                  | none =>
                    obtain rfl := HUN.out rfl
                    obtain rfl : m = 0 := by omega
                    go_wp2
                    go_region_held3 (fun w' => w'.cell? ⟨w.heap.size, 0, none⟩ = some (.int .i64 ((0 : Nat) : Int)) ∧ w'.cell? ⟨w.heap.size, 1, none⟩ = some (.slice p ps.length cap))
                      (first | exact ⟨cell_later hb9 k0, cell_later hb9 k1⟩ | exact ⟨k0, k1⟩ | go_keep)
                      ((go_at_call 16; refine (HTE2.out _ HR8.out.drew).mono ?_; rintro e w9 ⟨pz, cz, rfl, hbz, hb9⟩))
                    have hb9b : Below w8.heap.size w8 w9 := (Below.refl _ w8).drew.trans (show Below w8.heap.size w8.drew w9 from hb9)
                    have HR9 := hide (bthen HR8.out hb9b)
                    have HSB := hide (sameBools_any vs vs pz none cz 0 HVL.out w9 hbz (HVV.out.later (bthen HB5.out HR9.out)))
                    rw [dec_self, hvn] at HSB
                    rename_i hHeld
                    clear hHeld hbz hb9 hb9b k0 k1
                    go_wp2_with fail
                    refine HSB.out.mono ?_
                    rintro e wA ⟨rfl, hbA⟩
                    have HRA := hide (bthen HR9.out hbA)
                    clear hbA
                    go_wp2
                    go_ret
                    exact ⟨rfl, bthen HB5.out HRA.out⟩
                  | some ua =>
                    go_wp2
                    go_region_held3 (fun w' => w'.cell? ⟨w.heap.size, 0, none⟩ = some (.int .i64 m) ∧ w'.cell? ⟨w.heap.size, 1, none⟩ = some (.slice p ps.length cap))
                      (first | exact ⟨cell_later hb9 k0, cell_later hb9 k1⟩ | exact ⟨k0, k1⟩ | go_keep)
                      ((go_at_call 16; refine (HTE2.out _ HR8.out.drew).mono ?_; rintro e w9 ⟨pz, cz, rfl, hbz, hb9⟩))
                    have hb9b : Below w8.heap.size w8 w9 := (Below.refl _ w8).drew.trans (show Below w8.heap.size w8.drew w9 from hb9)
                    have HR9 := hide (bthen HR8.out hb9b)
                    have HSB := hide (sameBools_any vs vs pz (some ua) cz uc HVL.out w9 hbz (HVV.out.later (bthen HB5.out HR9.out)))
                    rw [dec_self, hvn] at HSB
                    rename_i hHeld
                    clear hHeld hbz hb9 hb9b k0 k1
                    go_wp2_with fail
                    refine HSB.out.mono ?_
                    rintro e wA ⟨rfl, hbA⟩
                    have HRA := hide (bthen HR9.out hbA)
                    clear hbA
                    go_wp2
                    go_ret
                    exact ⟨rfl, bthen HB5.out HRA.out⟩
              · have HE8 : Hid (hoE ((m : Int) + ps.length) L vs = 1) := by rw [HHE.out, if_pos (by intro e; apply hvn; have := HN.out; omega)]; rfl
                rw [HE8.out]
                generalize hoB ((m : Int) + ps.length) L vs = X at *
                go_wp2
                go_ret
                exact ⟨rfl, bthen HB5.out HR8.out⟩
        · have HEV1 : Hid (∀ w', Below wr.heap.size wr w' → Calls Try.prog 16 #[gval m p ps.length cap, .slice q bs.length qc, .slice pl (evens k).length cl] w' fun e w'' => ∃ pz cz, e = .returned (.tuple #[.slice pz 0 cz, .int .i64 1]) ∧ Below w'.heap.size w' w'') := fun w' hb => by
            have h := eval_any m p cap ps HWF.out (by omega) q qc bs HBL.out HQN.out pl cl (evens k) (by rw [evens_len]; omega) w' (HP.out.later (bthen HB5.out hb)) (HBB.out.later (bthen HB5.out hb)) (HIL5.out.later hb)
            have he : evE m ps bs (evens k) = 1 := by rw [HEG.out _ _ HUN2.out, if_pos (by intro e; apply hbi; omega)]
            rw [he] at h
            exact h.mono fun _ _ ⟨a, b, h1, _, h2⟩ => ⟨a, b, h1, h2⟩
          have HEV2 : Hid (∀ w', Below wr.heap.size wr w' → Calls Try.prog 16 #[gval m p ps.length cap, .slice q bs.length qc, .slice r rs.length rc] w' fun e w'' => ∃ pz cz, e = .returned (.tuple #[.slice pz 0 cz, .int .i64 1]) ∧ Below w'.heap.size w' w'') := fun w' hb => by
            have h := eval_any m p cap ps HWF.out (by omega) q qc bs HBL.out HQN.out r rc rs (by omega) w' (HP.out.later (bthen HB5.out hb)) (HBB.out.later (bthen HB5.out hb)) (HI.out.later (bthen HB5.out hb))
            have he : evE m ps bs rs = 1 := by rw [HEG.out _ _ HNL.out, if_pos (by intro e; apply hbi; omega)]
            rw [he] at h
            exact h.mono fun _ _ ⟨a, b, h1, _, h2⟩ => ⟨a, b, h1, h2⟩
          clear hbi hL
          go_wp2_with fail
          refine (HEV1.out _ hrx).mono ?_
          rintro e w5 ⟨pr, cr, rfl, hb5⟩
          have g0 := cell_later hb5 g0'
          have g1 := cell_later hb5 g1'
          have c0 := cell_later hb5 y0
          have c1 := cell_later hb5 y1
          go_wp2_with fail
          refine (HEV2.out _ hb5).mono ?_
          rintro e w7 ⟨pr2, cr2, rfl, hb6⟩
          have G0 := cell_later hb6 g0
          have G1 := cell_later hb6 g1
          have C0 := cell_later hb6 c0
          have C1 := cell_later hb6 c1
          have HR := hide (bthen hb5 hb6)
          clear hb5 hb6 g0 g1 c0 c1 g0' g1' y0 y1 HEV1 HEV2 hrx
          go_wp2_with fail
          refine (HHO.out vs u uc HVL.out _ HR.out (HVV.out.later (bthen HB5.out HR.out))).mono ?_
          rintro e w8 ⟨rfl, hb8⟩
          have k0 := cell_later hb8 G0
          have k1 := cell_later hb8 G1
          have HR8 := hide (bthen HR.out hb8)
          clear hb8 G0 G1 C0 C1
          by_cases hvn : vs.length = k
          · obtain ⟨e1, e2⟩ := HHB.out vs hvn
            rw [e1, e2]
            clear e1 e2
            cases hho : holdsL vs L
            · go_wp2
              go_ret
              exact ⟨rfl, bthen HB5.out HR8.out⟩
            · have HTE2 := hide (HTE.out hvn hho)
              have hLc : m ≤ uc := by have h1 := HUC.out; have h2 := HN.out; omega
              have hLc2 : (m : Int) ≤ (uc : Int) := by omega
              clear hho
              cases u with
              | none =>
                obtain rfl := HUN.out rfl
                obtain rfl : m = 0 := by omega
                go_wp2
                go_region_held3 (fun w' => w'.cell? ⟨w.heap.size, 0, none⟩ = some (.int .i64 ((0 : Nat) : Int)) ∧ w'.cell? ⟨w.heap.size, 1, none⟩ = some (.slice p ps.length cap))
                  (first | exact ⟨cell_later hb9 k0, cell_later hb9 k1⟩ | exact ⟨k0, k1⟩ | go_keep)
                  ((go_at_call 16; refine (HTE2.out _ HR8.out.drew).mono ?_; rintro e w9 ⟨pz, cz, rfl, hbz, hb9⟩))
                have hb9b : Below w8.heap.size w8 w9 := (Below.refl _ w8).drew.trans (show Below w8.heap.size w8.drew w9 from hb9)
                have HR9 := hide (bthen HR8.out hb9b)
                have HSB := hide (sameBools_any vs vs pz none cz 0 HVL.out w9 hbz (HVV.out.later (bthen HB5.out HR9.out)))
                rw [dec_self, hvn] at HSB
                rename_i hHeld
                clear hHeld hbz hb9 hb9b k0 k1
                go_wp2_with fail
                refine HSB.out.mono ?_
                rintro e wA ⟨rfl, hbA⟩
                have HRA := hide (bthen HR9.out hbA)
                clear hbA
                go_wp2
                go_ret
                exact ⟨rfl, bthen HB5.out HRA.out⟩
              | some ua =>
                go_wp2
                go_region_held3 (fun w' => w'.cell? ⟨w.heap.size, 0, none⟩ = some (.int .i64 m) ∧ w'.cell? ⟨w.heap.size, 1, none⟩ = some (.slice p ps.length cap))
                  (first | exact ⟨cell_later hb9 k0, cell_later hb9 k1⟩ | exact ⟨k0, k1⟩ | go_keep)
                  ((go_at_call 16; refine (HTE2.out _ HR8.out.drew).mono ?_; rintro e w9 ⟨pz, cz, rfl, hbz, hb9⟩))
                have hb9b : Below w8.heap.size w8 w9 := (Below.refl _ w8).drew.trans (show Below w8.heap.size w8.drew w9 from hb9)
                have HR9 := hide (bthen HR8.out hb9b)
                have HSB := hide (sameBools_any vs vs pz (some ua) cz uc HVL.out w9 hbz (HVV.out.later (bthen HB5.out HR9.out)))
                rw [dec_self, hvn] at HSB
                rename_i hHeld
                clear hHeld hbz hb9 hb9b k0 k1
                go_wp2_with fail
                refine HSB.out.mono ?_
                rintro e wA ⟨rfl, hbA⟩
                have HRA := hide (bthen HR9.out hbA)
                clear hbA
                go_wp2
                go_ret
                exact ⟨rfl, bthen HB5.out HRA.out⟩
          · have HE8 : Hid (hoE ((m : Int) + ps.length) L vs = 1) := by rw [HHE.out, if_pos (by intro e; apply hvn; have := HN.out; omega)]; rfl
            rw [HE8.out]
            generalize hoB ((m : Int) + ps.length) L vs = X at *
            go_wp2
            go_ret
            exact ⟨rfl, bthen HB5.out HR8.out⟩
  · have hV : ofV (ofE ins ps rs) (ins + ps.length) = 0 := by unfold ofV; rw [if_neg hE]
    have hne : (ofE ins ps rs != 0) = true := by simpa using hE
    rw [hV]
    have HB3 := hide (bthen HB2.out hb3)
    clear hb3 hE hV hnum
    generalize ofE ins ps rs = R at *
    go_wp2
    go_ret
    exact ⟨rfl, bal HB3.out _⟩

end Go.Proofs.Ytabnimgpednhjab
