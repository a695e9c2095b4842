/- The causes of a clause, one after another: the walk. -/
import Derived.Test.YtkinmangilbeeaaGreatDoorLlM
import Derived.Sort.QuietIn
import Derived.WalkKit
import Derived.OwnWalkIn
import Derived.TacticsInMore
import Derived.LoopNIn
import Derived.LoopIn
namespace Go.Proofs.YtkinmangilbeeaaGreatDoor.Sr
open Go.RowKit Go.Maps Go.Proofs.YtkinmangilbeeaaGreatDoor.Pf
set_option maxRecDepth 100000
attribute [local go_sem] Oper.semAt_some

/-- Is a number of a clause none of the causes? -/
def Sx.skip (S : Sx) (x : Int) : Bool := decide (-x ∉ S.B.st) || decide (lvOf S.B x = 0) || decide (S.marks.getD (S.B.st.idxOf (-x)) 0 = S.lessons)
/-- What is handed over at a place of the clause. -/
def CauY (St : Nat → Sx) (c : List Int) (k : Nat) : Option (Array Value) := if (St k).skip (c.getD k 0) then none else some #[.int .i64 (c.getD k 0), .int .i64 ((St k).B.st.idxOf (-(c.getD k 0)) : Nat)]
theorem grow_J {B : Nat} {J : Nat → World → Prop} (h : AbidesFrom B J) {A C : World} (hb : Below A.heap.size A C) {k : Nat} (hj : J k A) : J k C :=
  h k A C none hj ⟨hb.os, hb.tape, hb.output, hb.size, fun g hg _ => hb.block g hg⟩ (fun r e => by cases e)
/-- What is seen at a place of the clause. -/
structure CauV (base s : Nat) (XB XQ : Nat → Prop) (R nS nW q gp gw gm gl : Nat) (vh vl vp : Value) (g1 cg : Nat) (c : List Int) (S : Sx) (W : World) : Prop where
  ser : Ser base W s XB XQ R nS nW q gp gw gm gl vh vl vp S
  c1 : W.cell? ⟨g1, 0, none⟩ = some (.pointer (some ⟨s, 0, none⟩))
  cl : IntsAt W (some ⟨cg, 0, none⟩) c
set_option maxHeartbeats 4000000 in
theorem causes_seq (n base s : Nat) (XB XQ : Nat → Prop) (R nS nW q gp gw gm gl : Nat) (vh vl vp : Value) (St : Nat → Sx) (c : List Int) (g1 g2 cg vb ncl capc cap ci : Nat) (w : World)
    (hc : ∀ x ∈ c, Small x) (hlen : c.length ≤ 1000000) (hm : ∀ k, k ≤ c.length → (St k).B.sp.length ≤ (St k).marks.length)
    (h1 : w.cell? ⟨g1, 0, none⟩ = some (.pointer (some ⟨s, 0, none⟩))) (h2 : w.cell? ⟨g2, 0, none⟩ = some (.int .i64 ci)) (hs : w.cell? ⟨s, 0, none⟩ = some (.pointer (some ⟨R, 0, none⟩)))
    (hr0 : w.cell? ⟨R, 0, none⟩ = some (.slice (some ⟨vb, 0, none⟩) ncl capc)) (hci : ci < ncl) (hrow : w.cell? ⟨vb, ci, none⟩ = some (.slice (some ⟨cg, 0, none⟩) c.length cap)) (wk : Int) (hw : w.cell? ⟨R, 4, none⟩ = some (.int .i64 wk)) (hwf : w.frozen? ⟨R, 4, none⟩ = false)
    (n1 : vb ≠ R) (n2 : g1 ≠ R) (n3 : g2 ≠ R) (n4 : s ≠ R) :
    SeqC Fence.wide n Tryz.prog 104 #[.pointer (some ⟨g1, 0, none⟩), .pointer (some ⟨g2, 0, none⟩)] 2 c.length (CauY St c) (fun K => ∀ W x, K W → K (W.setCell ⟨R, 4, none⟩ (.int .i64 x))) (fun k W => CauV base s XB XQ R nS nW q gp gw gm gl vh vl vp g1 cg c (St k) W) w := by
  intro l J W hB hJ hU hV hsk hY h0
  have a1 := cell_later hB h1
  have a2 := cell_later hB h2
  have a3 := cell_later hB hs
  have a4 := cell_later hB hr0
  have a5 := cell_later hB hrow
  have a6 := cell_later hB hw
  have a7 : W.frozen? ⟨R, 4, none⟩ = false := (World.frozen?_of_block (a := ⟨R, 4, none⟩) (hB.block R (World.block_lt_of_cell? _ _ hw))).trans hwf
  have HY := hide hY
  have HV := hide hV
  have HSK := hide hsk
  have HJ := hide hJ
  have HU := hide hU
  have HJ0 := hide h0
  have HC := hide hc
  have HM := hide hm
  clear hY hV hsk hJ hU h0 hc hm h1 h2 hs hr0 hrow hw hwf hB
  refine callsIn_of_wp Tryz.func104 rfl trivial ?_ rfl
  simp only [Tryz.ntmps104, List.size_toArray, List.length_cons, List.length_nil, Nat.reduceAdd, Nat.reduceSub, Array.replicate_succ, Array.replicate_zero, List.push_toArray, List.append_toArray, List.nil_append, List.cons_append]
  gi_wp2_with fail
  have HJ1 := hide (HU.out W (wrap64 (wk + 1)) HJ0.out)
  have b1 := cell_set_far (p := ⟨R, 4, none⟩) (u := .int .i64 (wrap64 (wk + 1))) a1 n2
  have b2 := cell_set_far (p := ⟨R, 4, none⟩) (u := .int .i64 (wrap64 (wk + 1))) a2 n3
  have b3 := cell_set_far (p := ⟨R, 4, none⟩) (u := .int .i64 (wrap64 (wk + 1))) a3 n4
  have b4 : (W.setCell ⟨R, 4, none⟩ (.int .i64 (wrap64 (wk + 1)))).cell? ⟨R, 0, none⟩ = some (.slice (some ⟨vb, 0, none⟩) ncl capc) := (World.cell?_setCell_other _ _ _ _ (by simp)).trans a4
  have b5 := cell_set_far (p := ⟨R, 4, none⟩) (u := .int .i64 (wrap64 (wk + 1))) a5 n1
  have hszW : W.heap.size ≤ (W.setCell ⟨R, 4, none⟩ (.int .i64 (wrap64 (wk + 1)))).heap.size := by simp
  generalize W.setCell ⟨R, 4, none⟩ (.int .i64 (wrap64 (wk + 1))) = W1 at *
  clear a1 a2 a3 a4 a5 a6 a7 n1 n2 n3 n4 HU HJ0
  have e1 : (ci : Int) < (ncl : Int) := by omega
  have e2 : (0 : Int) ≤ (ci : Int) := by omega
  gi_quiet (fail)
  rename_i hK2
  refine hK2 _ _ ?_
  clear hK2
  have HJ2 : Hid (J 0 (W1.drewN nq)) := grow_J HJ.out (below_drewN (Below.refl _ _) _) HJ1.out
  generalize W1.drewN nq = W2 at *
  clear b1 b2 b3 b4 b5 HJ1 hci
  gi_wp2_with fail
  gi_loopw [29] (fun i wr => ∃ k : Nat, k ≤ c.length ∧ i = .int .i64 k ∧ J k wr) (fun i _ => c.length - (intOf i).toNat)
  case atStart => exact ⟨0, Nat.zero_le _, rfl, HJ2.out⟩
  case round =>
    obtain ⟨k, hk, rfl, hJk⟩ := hrel
    have HJK := hide hJk
    have HVK := hide (HV.out k wr hk hJk)
    have hmk := HM.out k hk
    clear hJk
    by_cases hlt : k < c.length
    · have hlti : (k : Int) < (c.length : Int) := by omega
      have e7 : (0 : Int) ≤ (k : Int) := by omega
      obtain ⟨bb, oo, hpe, hcl⟩ := HVK.out.cl (by omega)
      obtain ⟨rfl, rfl⟩ : cg = bb ∧ 0 = oo := by simpa using hpe
      have x0 := hcl k hlt
      obtain ⟨x, hx⟩ : ∃ x, c[k] = x := ⟨_, rfl⟩
      rw [hx] at x0
      simp only [Nat.zero_add] at x0
      have HG : Hid (c.getD k 0 = x) := by unfold Hid; rw [List.getD_eq_getElem?_getD, List.getElem?_eq_getElem hlt]; exact hx
      have hsm := HC.out x (hx ▸ List.getElem_mem hlt)
      have hx1 := hsm.1
      have hx2 := hsm.2
      have w1 := wrap_in (-x) (by omega) (by omega)
      have s0 := HVK.out.ser.s0
      have y0 := HVK.out.c1
      have HPL := hide (place_any HVK.out.ser.bd (-x) hsm.neg)
      clear hcl hx hpe
      gi_wp2_with fail
      refine ⟨trivial, (fun h => by simp [Fence.wide] at h), (callsIn_wide.2 HPL.out).mono ?_⟩
      rintro e w2 ⟨pl, rfl, hpl, rfl⟩
      have m7 := HVK.out.ser.s7
      have m6 := HVK.out.ser.s6
      by_cases hmem : -x ∈ (St k).B.st
      · rw [decide_eq_true hmem]
        have hi : (St k).B.st.idxOf (-x) < (St k).B.st.length := List.idxOf_lt_length_of_mem hmem
        have his : (St k).B.st.idxOf (-x) < (St k).B.sp.length := by rw [st_len] at hi; exact hi
        obtain ⟨g, cp, q1, q2, q3, q4⟩ := BdAt.step HVK.out.ser.bd his
        obtain ⟨pm, _⟩ := map_cell HVK.out.ser.ma (k := (St k).B.st.idxOf (-x)) (by omega)
        have hplx : pl = ((St k).B.st.idxOf (-x) : Nat) := hpl _ (by rw [List.getElem?_eq_getElem hi, List.getElem_idxOf])
        subst hplx
        have HSI : Hid ((St k).skip x = (decide ((St k).B.sp[(St k).B.st.idxOf (-x)].2.1 = 0) || decide ((St k).marks.getD ((St k).B.st.idxOf (-x)) 0 = (St k).lessons))) := by
          unfold Hid Sx.skip
          rw [decide_eq_false (by simpa using hmem), Bool.false_or]
          unfold lvOf
          rw [List.getD_eq_getElem?_getD, List.getElem?_eq_getElem his]
          rfl
        have HYI : Hid ((St k).skip x = false → CauY St c k = some #[.int .i64 x, .int .i64 ((St k).B.st.idxOf (-x) : Nat)]) := fun h => by unfold CauY; rw [HG.out, h]; rfl
        have HNI : Hid ((St k).skip x = true → CauY St c k = none) := fun h => by unfold CauY; rw [HG.out, h]; rfl
        have f1 : ((St k).B.st.idxOf (-x) : Int) < ((St k).B.sp.length : Int) := by omega
        have f2 : (0 : Int) ≤ ((St k).B.st.idxOf (-x) : Int) := by omega
        have f3 : ((St k).B.st.idxOf (-x) : Int) < ((St k).marks.length : Int) := by omega
        generalize (St k).B.sp[(St k).B.st.idxOf (-x)].2.1 = lv at *
        generalize (St k).B.sp[(St k).B.st.idxOf (-x)].1 = z1 at *
        generalize (St k).B.sp[(St k).B.st.idxOf (-x)].2.2 = z2 at *
        generalize (St k).marks.getD ((St k).B.st.idxOf (-x)) 0 = mk at *
        generalize (St k).lessons = ls at *
        generalize (St k).skip x = sk at *
        generalize (St k).B.st.idxOf (-x) = ix at *
        generalize (St k).B.sp.length = nsp at *
        generalize (St k).marks.length = nma at *
        clear hi his hpl HPL hmem x0 q2 q4
        by_cases hl0 : lv = 0
        · subst hl0
          have HN := hide (HNI.out (HSI.out.trans rfl))
          clear HNI HYI HSI
          gi_wp2_with fail
          gi_quiet (fail)
          rename_i hK3
          have HJ3 : Hid (J k (w2.drewN nq)) := grow_J HJ.out (below_drewN (Below.refl _ _) _) HJK.out
          have HJ4 := hide (HSK.out k _ HJ3.out hlt HN.out)
          refine hK3 _ _ ?_
          clear hK3
          generalize w2.drewN nq = w3 at *
          gi_wp2
          go_roundw
          case rel => exact ⟨k + 1, hlt, by go_num, HJ4.out⟩
          case measure => simp [intOf]; omega
        · have d0 : decide (lv = 0) = false := decide_eq_false hl0
          rw [d0, Bool.false_or] at HSI
          have d2 : (lv == 0) = false := by simpa using hl0
          by_cases hms : mk = ls
          · subst hms
            have HN := hide (HNI.out (HSI.out.trans (decide_eq_true rfl)))
            clear HNI HYI HSI hl0
            gi_wp2_with fail
            gi_quiet (fail)
            rename_i hK3
            have HJ3 : Hid (J k (w2.drewN nq)) := grow_J HJ.out (below_drewN (Below.refl _ _) _) HJK.out
            have HJ4 := hide (HSK.out k _ HJ3.out hlt HN.out)
            refine hK3 _ _ ?_
            clear hK3
            generalize w2.drewN nq = w3 at *
            gi_wp2
            go_roundw
            case rel => exact ⟨k + 1, hlt, by go_num, HJ4.out⟩
            case measure => simp [intOf]; omega
          · have d1 : decide (mk = ls) = false := decide_eq_false hms
            rw [d1] at HSI
            have d3 : (mk == ls) = false := by simpa using hms
            have HYS := hide (HYI.out HSI.out)
            clear HNI HYI HSI hl0 hms
            gi_wp2_with fail
            gi_quiet (fail)
            rename_i hK3
            have HJ3 : Hid (J k (w2.drewN nq)) := grow_J HJ.out (below_drewN (Below.refl _ _) _) HJK.out
            refine hK3 _ _ ?_
            clear hK3
            generalize w2.drewN nq = w3 at *
            obtain ⟨fn, tmps, assign, body, hy, hRR⟩ := (HY.out k _ w3 HJ3.out hlt HYS.out).2
            gi_wp2
            refine ⟨(fun h => by simp [Fence.wide] at h), hRR.mono ?_⟩
            rintro e W3 ⟨rfl, hJ3⟩
            have HJ4 := hide hJ3
            clear hJ3
            gi_wp2
            go_roundw
            case rel => exact ⟨k + 1, hlt, by go_num, HJ4.out⟩
            case measure => simp [intOf]; omega
      · rw [decide_eq_false hmem]
        have HN : Hid (CauY St c k = none) := by
          unfold Hid CauY Sx.skip
          rw [HG.out, decide_eq_true (by simpa using hmem)]
          rfl
        clear hpl HPL hmem x0
        gi_wp2_with fail
        gi_quiet (fail)
        have HJ3 : Hid (J k (w2.drewN nq)) := grow_J HJ.out (below_drewN (Below.refl _ _) _) HJK.out
        have HJ4 := hide (HSK.out k _ HJ3.out hlt HN.out)
        rename_i hK3
        refine hK3 _ _ ?_
        clear hK3
        generalize w2.drewN nq = w3 at *
        gi_wp2
        go_roundw
        case rel => exact ⟨k + 1, hlt, by go_num, HJ4.out⟩
        case measure => simp [intOf]; omega
    · have hlti : ¬ (k : Int) < (c.length : Int) := by omega
      obtain rfl : k = c.length := by omega
      gi_wp2
      go_end0
      exact ⟨⟨_, rfl⟩, HJK.out⟩
end Go.Proofs.YtkinmangilbeeaaGreatDoor.Sr
