/- GatesEvals: the walk. -/
import Derived.Test.YtabnimgpednhjabGo
namespace Go.Proofs.Ytabnimgpednhjab
open Go.RowKit Go.Maps Go.WideMaps
set_option maxRecDepth 100000

theorem lits_any (e : Int) (ls : List Int) : ls.all (isLit e) = !ls.any (noLit e) := by
  induction ls with
  | nil => rfl
  | cons a l ih => simp only [List.all_cons, List.any_cons, ih, isLit]; cases noLit e a <;> simp
theorem nil_bools {w : World} {p : Option Addr} : BoolsAt w p [] := fun h => by simp at h
theorem dec_self (l : List Bool) : decide (l = l) = true := by simp

set_option maxRecDepth 100000 in
set_option maxHeartbeats 8000000 in
theorem evals_walk (ins : Int) (p : Option Addr) (cap : Nat) (ps : List (Int × Int)) (hwf : WfP ps) (hl : ps.length ≤ 8796093021952) (q : Option Addr) (qc : Nat) (bs : List Bool) (hbl : bs.length ≤ maxLen) (hqn : q = none → qc = 0) (r : Option Addr) (rc : Nat) (ls : List Int) (hll : ls.length ≤ 17592186043904)
    (w : World) (hP : PairsAt w p ps) (hB : BoolsAt w q bs) (hI : IntsAt w r ls) :
    Calls Try.prog 4 #[gval ins p ps.length cap, .slice q bs.length qc, .slice r ls.length rc] w fun e w' => e = .returned (.bool true) ∧ Below w.heap.size w w' := by
  have hB0 : Below w.heap.size w (w.alloc (.cells #[.int .i64 ins, .slice p ps.length cap] 24)) := bal (Below.refl _ _) _
  have H1 := hide (eval_any ins p cap ps hwf (by omega) q qc bs hbl hqn r rc ls (by omega) _ (hP.later hB0) (hB.later hB0) (hI.later hB0))
  have HCG := hide (fun (w' : World) (hb : Below w.heap.size w w') => checkGraph_any ins p cap ps hwf (by omega) w' (hP.later hb))
  have HB0 := hide hB0
  have HP := hide hP
  have HBB := hide hB
  have HI := hide hI
  have HQN := hide hqn
  unfold maxLen at hbl
  have HNO : Hid (∀ e : Int, e ≠ 0 → evL ps bs ls e = []) := fun e h => by unfold evL; rw [if_neg h]
  clear hP hwf hB0 hB hI hqn
  by_cases hc : chkE ins ps = 0
  · obtain ⟨h0, h1, hlen, hst, hd⟩ := chk_zero hc
    have HST := hide hst
    have HAE : Hid (evE ins ps bs ls = if ls.any (noLit (2 * (1 + ins + ps.length))) = true then 5 else if (bs.length : Int) ≠ ins then 1 else 0) := by unfold evE; rw [if_neg (by simpa using hc)]; rfl
    have HAL := hide (fun (w' : World) (hb : Below w.heap.size w w') => areLits_any ins p ps.length cap h0 h1 (by omega) ls r rc (by unfold maxLen; omega) w' (HI.out.later hb))
    rw [lits_any] at HAL
    rw [hc] at HCG
    clear hc hst hd
    generalize hev : evE ins ps bs ls = E at *
    generalize hvl : evL ps bs ls E = L at *
    go_enter Try.func4, Try.ntmps4
    go_wp2_with fail
    refine H1.out.mono ?_
    rintro e w1 ⟨pv, cv, rfl, hbv, hb1⟩
    have q0 := cell_later hb1 (a := ⟨w.heap.size, 0, none⟩) (v := .int .i64 ins) (by simp [go_sem])
    have q1 := cell_later hb1 (a := ⟨w.heap.size, 1, none⟩) (v := .slice p ps.length cap) (by simp [go_sem])
    have HB1 := hide (bthen HB0.out hb1)
    clear hb1 H1
    go_wp2_with fail
    refine (HCG.out _ HB1.out).mono ?_
    rintro e w2 ⟨rfl, hb2⟩
    have q0' := cell_later hb2 q0
    have q1' := cell_later hb2 q1
    have HV2 := hide (hbv.later hb2)
    have HB2 := hide (bthen HB1.out hb2)
    clear hb2 q0 q1 hbv HB1 HCG
    go_wp2_with fail
    refine (HAL.out _ HB2.out).mono ?_
    rintro e w3 ⟨rfl, hb3⟩
    have q0 := cell_later hb3 q0'
    have q1 := cell_later hb3 q1'
    have HV3 := hide (HV2.out.later hb3)
    have HB3 := hide (bthen HB2.out hb3)
    clear hb3 q0' q1' HV2 HB2 HAL
    cases hn : ls.any (noLit (2 * (1 + ins + ps.length)))
    · by_cases hbi : (bs.length : Int) = ins
      · have HE : Hid (E = 0) := by rw [HAE.out, hn, if_neg (by decide), if_neg (by simpa using hbi)]; rfl
        have HL : Hid (∀ i (h : i < ls.length), 0 ≤ ls[i] ∧ ls[i] < 2 * (1 + ins + ps.length)) := fun i h => by
          rw [List.any_eq_false] at hn
          have := hn _ (List.getElem_mem h)
          simp [noLit] at this
          omega
        subst hbi
        have HEV : Hid (L = ls.map (litV (nodesV bs ps ps.length))) := by rw [← hvl, HE.out]; rfl
        have hne : ((bs.length : Int) != (bs.length : Int)) = false := by simp
        rw [HE.out] at *
        clear HAE hn HNO hev hvl HE
        go_wp2_with fail
        refine (nodesOf_any p cap ps (by omega) q qc bs (by omega) HQN.out HST.out _ (HP.out.later HB3.out) (HBB.out.later HB3.out)).mono ?_
        rintro e w4 ⟨pn, cn, rfl, hbn, hb4⟩
        have HB4 := hide (bthen HB3.out hb4)
        have HV4 := hide (HV3.out.later hb4)
        have HBN := hide hbn
        have HVL := hide (nodesV_len bs ps ps.length)
        generalize hvs : nodesV bs ps ps.length = vs at *
        clear hvs hb4 hbn q0 q1 HV3 HB3
        go_wp2
        go_loopw [10, 12] (fun v i wr => ∃ k : Nat, k ≤ ls.length ∧ i = .int .i64 k ∧ wr.ownsRow w4.heap.size 4 1 v ((ls.take k).map (litV vs)).length (((ls.take k).map (litV vs)).map Value.bool) ∧ Below w4.heap.size w4 wr) (fun _ i _ => ls.length - (intOf i).toNat)
        case atStart => exact ⟨0, Nat.zero_le _, rfl, World.ownsRow_nil _ _ _ _, Below.refl _ _⟩
        case round =>
          obtain ⟨k, hk, rfl, hown, hbw⟩ := hrel
          have hszw := hbw.size
          by_cases hlt : k < ls.length
          · obtain ⟨lb, lo, rfl, hlc⟩ := (HI.out.later (bthen HB4.out hbw)) (by omega)
            have c0 := hlc k hlt
            have hki : (k : Int) < (ls.length : Int) := by omega
            have hbd := HL.out k hlt
            have HS : Hid ((ls.take (k + 1)).map (litV vs) = (ls.take k).map (litV vs) ++ [litV vs ls[k]]) := by rw [List.take_succ_eq_append_getElem hlt, List.map_append]; rfl
            have HLK : Hid (((ls.take k).map (litV vs)).length = k) := by simp [Hid]; omega
            have HT := hide (litOf_any vs pn cn ls[k] hbd.1 (by rw [HVL.out]; omega) (by rw [HVL.out]; omega) wr (HBN.out.later hbw))
            have HOW := hide hown
            have HBW := hide hbw
            clear hlc hown hbw hbd
            generalize ls[k] = x at *
            generalize (ls.take k).map (litV vs) = us at *
            generalize litV vs x = y at *
            go_wp2_with fail
            refine HT.out.mono ?_
            rintro e w' ⟨rfl, rfl⟩
            go_wp2_with (at_builtin; refine wpList_append_bools rfl _ _ rfl w4.heap.size _ us [y] rfl (HOW.out.alloc _) _ _ rfl (bools_one y) (fun h => by cases h) (by simp; rw [HLK.out]; omega) (by simp; omega) ?_)
            intro v' w6 hown6 hg6
            have HB6 := hide ((bal HBW.out _).grown hg6 (by simp; omega) (fun j hj => (HOW.out.lt j hj).1))
            have hown7 : w6.ownsRow w4.heap.size 4 1 v' ((ls.take (k + 1)).map (litV vs)).length (((ls.take (k + 1)).map (litV vs)).map Value.bool) := by rw [HS.out]; simpa using hown6
            clear hown6 hg6
            go_wp2
            go_roundw
            case rel => exact ⟨k + 1, by omega, by go_num, hown7, HB6.out⟩
            case measure => simp [intOf]; omega
          · obtain rfl : k = ls.length := by omega
            rw [List.take_length, ← HEV.out] at hown
            obtain ⟨pw, cw, rfl, hbz⟩ := owns_bools hown
            have HLL : Hid (L.length ≤ maxLen) := by rw [HEV.out, List.length_map]; unfold maxLen; show _ ≤ _; omega
            have HSB := hide (fun (w' : World) (hb : Below wr.heap.size wr w') => sameBools_any L L pv pw cv cw HLL.out w' ((HV4.out.later hbw).later hb) (hbz.later hb))
            rw [dec_self] at HSB
            have HB5 := hide (bthen HB4.out hbw)
            clear hown hbz hlt
            go_wp2_with fail
            refine (begun_any _).mono ?_
            rintro e w6 ⟨rfl, hb6⟩
            have HS6 := hide (HSB.out _ hb6)
            have HB6 := hide (bthen HB5.out hb6)
            clear hb6 HSB
            go_wp2_with fail
            refine HS6.out.mono ?_
            rintro e w7 ⟨rfl, hb7⟩
            have HB7 := hide (bthen HB6.out hb7)
            clear hb7
            go_wp2
            go_ret
            exact ⟨rfl, HB7.out⟩
      · have HE : Hid (E = 1) := by rw [HAE.out, hn, if_neg (by decide), if_pos (by simpa using hbi)]; rfl
        have hne : ((bs.length : Int) != ins) = true := by simpa using hbi
        have HL : Hid (L = []) := by rw [← hvl]; exact HNO.out E (by rw [HE.out]; decide)
        rw [HE.out, HL.out] at *
        clear HAE hn hbi hev hvl HNO HE
        have HSB := hide (fun (w' : World) => sameBools_any [] [] pv none cv 0 (by simp [maxLen]) w' nil_bools nil_bools)
        rw [dec_self] at HSB
        go_wp2_with fail
        refine (begun_any _).mono ?_
        rintro e w4 ⟨rfl, hb4⟩
        have HB4 := hide (bthen HB3.out hb4)
        clear hb4
        go_wp2_with fail
        refine (HSB.out _).mono ?_
        rintro e w5 ⟨rfl, hb5⟩
        have HB5 := hide (bthen HB4.out hb5)
        clear hb5
        go_wp2
        go_ret
        exact ⟨rfl, HB5.out⟩
    · have HE : Hid (E = 5) := by rw [HAE.out, hn]; rfl
      have HL : Hid (L = []) := by rw [← hvl]; exact HNO.out E (by rw [HE.out]; decide)
      rw [HE.out, HL.out] at *
      clear HAE hn hev hvl HNO HE
      have HSB := hide (fun (w' : World) => sameBools_any [] [] pv none cv 0 (by simp [maxLen]) w' nil_bools nil_bools)
      rw [dec_self] at HSB
      go_wp2_with fail
      refine (begun_any _).mono ?_
      rintro e w4 ⟨rfl, hb4⟩
      have HB4 := hide (bthen HB3.out hb4)
      clear hb4
      go_wp2_with fail
      refine (HSB.out _).mono ?_
      rintro e w5 ⟨rfl, hb5⟩
      have HB5 := hide (bthen HB4.out hb5)
      clear hb5
      go_wp2
      go_ret
      exact ⟨rfl, HB5.out⟩
  · have HE : Hid (evE ins ps bs ls = chkE ins ps) := by unfold evE; rw [if_pos hc]; rfl
    have HL := hide (HNO.out _ hc)
    rw [HE.out, HL.out] at H1
    have hc' : (chkE ins ps == 0) = false := by simpa using hc
    clear hc HE HL HNO
    generalize chkE ins ps = R at *
    go_enter Try.func4, Try.ntmps4
    go_wp2_with fail
    refine H1.out.mono ?_
    rintro e w1 ⟨pv, cv, rfl, hbv, hb1⟩
    have q0 := cell_later hb1 (a := ⟨w.heap.size, 0, none⟩) (v := .int .i64 ins) (by simp [go_sem])
    have q1 := cell_later hb1 (a := ⟨w.heap.size, 1, none⟩) (v := .slice p ps.length cap) (by simp [go_sem])
    have HB1 := hide (bthen HB0.out hb1)
    clear hb1 H1 hbv
    go_wp2_with fail
    refine (HCG.out _ HB1.out).mono ?_
    rintro e w3 ⟨rfl, hb2⟩
    have HB3 := hide (bthen HB1.out hb2)
    clear hb2 q0 q1 HB1 HCG
    have HSB := hide (fun (w' : World) => sameBools_any [] [] pv none cv 0 (by simp [maxLen]) w' nil_bools nil_bools)
    rw [dec_self] at HSB
    go_wp2_with fail
    refine (begun_any _).mono ?_
    rintro e w4 ⟨rfl, hb4⟩
    have HB4 := hide (bthen HB3.out hb4)
    clear hb4
    go_wp2_with fail
    refine (HSB.out _).mono ?_
    rintro e w5 ⟨rfl, hb5⟩
    have HB5 := hide (bthen HB4.out hb5)
    clear hb5
    go_wp2
    go_ret
    exact ⟨rfl, HB5.out⟩

end Go.Proofs.Ytabnimgpednhjab
