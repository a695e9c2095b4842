/- Proofs: Check, the walk. -/
import Derived.Test.YtkinmangilbeeaaGreatDoorPw
import Derived.Test.YtkinmangilbeeaaGreatDoorRbM
import Derived.Test.YtkinmangilbeeaaGreatDoorUg
import Derived.Test.YtkinmangilbeeaaGreatDoorPaM
import Derived.Deep.CutRange
import Derived.Deep.RegionHeld3
import Derived.Deep.QuietTactic
import Derived.BigQuiet
namespace Go.Proofs.YtkinmangilbeeaaGreatDoor.Pf
open Go.RowKit Go.Maps Go.WideMaps
set_option maxRecDepth 100000

set_option maxRecDepth 100000 in
set_option maxHeartbeats 2000000 in
theorem indexRows0_any (fn : FuncId) (f : Row → Bool) (l : List Row) (p : Option Addr) (cap : Nat) (w : World) (hl : l.length ≤ maxLen) (hI : RowsAt w p l) (hent : ∀ (args : Array Value) (w : World), (callFunc fn args).run Tryz.prog w = .ok (.enter fn args) w)
    (hcl : ∀ wr, Below w.heap.size w wr → ∀ i (h : i < l.length), Calls Tryz.prog fn #[l[i].v] wr fun e w' => e = .returned (.bool (f l[i])) ∧ Below wr.heap.size wr w') :
    Calls Tryz.prog 32 #[.slice p l.length cap, .func (.func fn) #[] #[]] w fun e w' => e = .returned (.int .i64 (findR f l)) ∧ Below w.heap.size w w' := by
  have HC := hide hcl
  unfold maxLen at hl
  clear hcl
  go_enter Tryz.func32, Tryz.ntmps32
  go_wp2
  go_loopw [8] (fun i wr => ∃ k : Nat, k ≤ l.length ∧ i = .int .i64 k ∧ Hid (∀ i (hi : i < l.length), i < k → f l[i] = false) ∧ Below w.heap.size w wr) (fun i _ => l.length - (intOf i).toNat)
  case atStart => exact ⟨0, Nat.zero_le _, rfl, fun i hi h => by omega, Below.refl _ _⟩
  case round =>
    obtain ⟨k, hk, rfl, hno, hbw⟩ := hrel
    by_cases hlt : k < l.length
    · obtain ⟨b, off, rfl, hc⟩ := (hI.later hbw) (by omega)
      have hck := hc k hlt
      have HCC := hide (fun _ : Unit => HC.out wr hbw k hlt)
      have HH := hide (findR_hit f l k hlt hno.out)
      clear hc
      cases hf : f l[k]
      · have HN : Hid (∀ i (hi : i < l.length), i < k + 1 → f l[i] = false) := by
          intro i hi h
          rcases Nat.lt_succ_iff_lt_or_eq.1 h with h1 | rfl
          · exact hno.out i hi h1
          · exact hf
        rw [hf] at HCC
        clear hf hno HH
        generalize l[k].v = x at *
        go_wp2_with fail
        refine (HCC.out ()).mono ?_
        rintro e w' ⟨rfl, hb2⟩
        go_wp2
        go_roundw
        case rel => exact ⟨k + 1, by omega, by go_num, HN, bthen hbw hb2⟩
        case measure => simp [intOf]; omega
      · rw [hf] at HCC
        have HV := hide (HH.out hf)
        clear hf hno HH
        generalize l[k].v = x at *
        go_wp2_with fail
        refine (HCC.out ()).mono ?_
        rintro e w' ⟨rfl, hb2⟩
        go_wp2
        go_ret
        exact ⟨ret_int HV.out.symm, bthen hbw hb2⟩
    · have HV := hide (findR_miss f l (fun i hi => hno.out i hi (by omega)))
      go_wp2
      go_ret
      exact ⟨ret_int HV.out.symm, hbw⟩

theorem containsRows0_any (fn : FuncId) (f : Row → Bool) (l : List Row) (p : Option Addr) (cap : Nat) (w : World) (hl : l.length ≤ maxLen) (hI : RowsAt w p l) (hent : ∀ (args : Array Value) (w : World), (callFunc fn args).run Tryz.prog w = .ok (.enter fn args) w)
    (hcl : ∀ wr, Below w.heap.size w wr → ∀ i (h : i < l.length), Calls Tryz.prog fn #[l[i].v] wr fun e w' => e = .returned (.bool (f l[i])) ∧ Below wr.heap.size wr w') :
    Calls Tryz.prog 21 #[.slice p l.length cap, .func (.func fn) #[] #[]] w fun e w' => e = .returned (.bool (l.any f)) ∧ Below w.heap.size w w' := by
  have HCC := hide (fun _ : Unit => indexRows0_any fn f l p cap w hl hI hent hcl)
  have HG := hide (findR_ge f l)
  clear hcl hent
  generalize findR f l = x at *
  go_enter Tryz.func21, Tryz.ntmps21
  go_wp2_with fail
  refine (HCC.out ()).mono ?_
  rintro e w' ⟨rfl, hb2⟩
  go_wp2
  go_ret
  exact ⟨ret_bool HG.out, hb2⟩

theorem enter79 (args : Array Value) (w : World) : (callFunc 23 args).run Tryz.prog w = .ok (.enter 23 args) w := by kernel_rfl
theorem anyEmpty (p : Option Addr) (cap : Nat) (ps : List Row) (hl : ps.length ≤ maxLen) (w : World) (hR : RowsAt w p ps) :
    Calls Tryz.prog 21 #[.slice p ps.length cap, .func (.func 23) #[] #[]] w fun e w' => e = .returned (.bool (ps.any fun r => decide (r.ns.length = 0))) ∧ Below w.heap.size w w' :=
  containsRows0_any 23 (fun r => decide (r.ns.length = 0)) ps p cap w hl hR enter79 (fun wr _ i hi => (isEmpty_any ps[i].at' ps[i].ns.length ps[i].cap wr).mono fun e w' ⟨h1, h2⟩ => ⟨h1, h2 ▸ Below.refl _ _⟩)
/-- There is an empty clause, and each follows from the clauses and those ahead of it. -/
def PrfOk (L P : List (List Int)) : Prop := [] ∈ P ∧ ∀ k (hk : k < P.length), Confl (L ++ P.take k) (negs P[k])
/-- What Check leaves. -/
def CkOut (w : World) (vars : Int) (L P : List (List Int)) (e : Ending) (w' : World) : Prop :=
  ∃ b, e = .returned (.tuple #[.bool b, .int .i64 (chkC vars (L ++ P))]) ∧ (b = true ↔ chkC vars (L ++ P) = 0 ∧ PrfOk L P) ∧ Below w.heap.size w w'
set_option maxHeartbeats 4000000 in
theorem checkP_any (vars : Int) (p q : Option Addr) (cap cq : Nat) (rs ps : List Row) (hl : rs.length + ps.length ≤ 11728124029610) (hin : ∀ r ∈ rs ++ ps, r.ns.length ≤ maxLen) (hp : p = none → cap = 0) (hq : q = none → cq = 0) (w : World) (hC : ClAt w p rs) (hD : ClAt w q ps) :
    Calls Tryz.prog 10 #[cval vars p rs.length cap, .slice q ps.length cq] w (CkOut w vars (numsOf rs) (numsOf ps)) := by
  have HIN := hide hin
  have HC := hide hC
  have HD := hide hD
  obtain ⟨n, hn⟩ : ∃ n, rs.length = n := ⟨_, rfl⟩
  obtain ⟨m, hm⟩ : ∃ m, ps.length = m := ⟨_, rfl⟩
  have hB1 : Below w.heap.size w (w.alloc (.cells #[.int .i64 vars, .slice p n cap] 24)) := bal (Below.refl _ _) _
  have x0 : (w.alloc (.cells #[.int .i64 vars, .slice p n cap] 24)).cell? ⟨w.heap.size, 0, none⟩ = some (.int .i64 vars) := by simp [go_sem]
  have x1 : (w.alloc (.cells #[.int .i64 vars, .slice p n cap] 24)).cell? ⟨w.heap.size, 1, none⟩ = some (.slice p n cap) := by simp [go_sem]
  have HNL := hide (And.intro hn hm)
  have HPN := hide (And.intro hp hq)
  have hnm : n + m ≤ 11728124029610 := by omega
  rw [hn, hm]
  have HB1 := hide hB1
  clear hin hC hD hn hm hB1 hp hq hl
  go_enter Tryz.func10, Tryz.ntmps10
  go_upto_region 1 with fail
  generalize hw1 : w.alloc (.cells #[.int .i64 vars, .slice p n cap] 24) = w1 at *
  have hsz : w.heap.size < w1.heap.size := by rw [← hw1]; simp
  clear hw1
  generalize hbx : w.heap.size = bx at *
  have HCO : Hid (∀ u, Below w1.heap.size w1 u → u.cell? ⟨w1.heap.size, 0, none⟩ = some (.slice p n cap) → u.cell? ⟨w1.heap.size, 1, none⟩ = some (.slice q m cq) → Calls Tryz.prog 22 #[.slice (some ⟨w1.heap.size, 0, none⟩) 2 2] u fun e w' => ∃ g k, e = .returned (.slice g (n + m) k) ∧ RowsAt w' g (rs ++ ps) ∧ Below u.heap.size u w') := fun u hu h1 h2 => by
    have hbu : Below w.heap.size w u := by rw [hbx]; exact HB1.out.trans (hu.mono (by omega))
    have hfl : [(⟨p, rs, cap⟩ : Lst), ⟨q, ps, cq⟩].flatMap Lst.rs = rs ++ ps := by simp
    have hc := concatA_any [⟨p, rs, cap⟩, ⟨q, ps, cq⟩] (some ⟨w1.heap.size, 0, none⟩) 2 u (by simp) (by rw [hfl, List.length_append, HNL.out.1, HNL.out.2]; exact hnm) (fun _ => ⟨w1.heap.size, 0, rfl, fun i hi => by
      match i, hi with
      | 0, _ => simp only [List.getElem_cons_zero, Lst.v, HNL.out.1]; exact h1
      | 1, _ => simp only [List.getElem_cons_succ, List.getElem_cons_zero, Lst.v, HNL.out.2]; exact h2⟩) (fun r hr => by
      simp at hr
      rcases hr with rfl | rfl
      · exact ⟨HC.out.rows.later hbu, HPN.out.1⟩
      · exact ⟨HD.out.rows.later hbu, HPN.out.2⟩)
    rw [hfl, List.length_append, HNL.out.1, HNL.out.2] at hc
    exact hc.mono fun e w' ⟨g, k, e1, e2, _, e4⟩ => ⟨g, k, e1, e2, e4⟩
  have HCK : Hid (∀ u g k, Below w1.heap.size w1 u → RowsAt u g (rs ++ ps) → Calls Tryz.prog 8 #[cval vars g (n + m) k] u fun e w' => e = .returned (.int .i64 (chkC vars (numsOf rs ++ numsOf ps))) ∧ Below u.heap.size u w') := fun u g k hu h1 => by
    have hbu : Below w.heap.size w u := by rw [hbx]; exact HB1.out.trans (hu.mono (by omega))
    have hc := checkC_any vars g k (rs ++ ps) (by rw [List.length_append, HNL.out.1, HNL.out.2]; omega) HIN.out u ⟨h1, fun r hr => by
      rcases List.mem_append.1 hr with hr | hr
      · exact HC.out.inn.later hbu r hr
      · exact HD.out.inn.later hbu r hr⟩
    rw [List.length_append, HNL.out.1, HNL.out.2, show numsOf (rs ++ ps) = numsOf rs ++ numsOf ps by simp [numsOf]] at hc
    exact hc
  have hbne : ¬ bx = w1.heap.size := by omega
  have hbne' : ¬ w1.heap.size = bx := by omega
  go_region_held3 (fun w' => w'.cell? ⟨bx, 0, none⟩ = some (.int .i64 vars) ∧ w'.cell? ⟨bx, 1, none⟩ = some (.slice p n cap)) (first | exact ⟨x0, x1⟩ | exact ⟨past1 x0 _, past1 x1 _⟩ | exact ⟨y0, y1⟩ | exact ⟨z0, z1⟩ | go_keep)
    (first | (go_at_call 22; refine (HCO.out _ (by first | exact (bal (Below.refl _ w1) _).drew | exact bal (Below.refl _ w1).drew _ | exact bal (Below.refl _ w1) _) (by simp [go_sem]) (by simp [go_sem])).mono ?_
              rintro e w3 ⟨g3, k3, rfl, hr3, hb3⟩
              have hbb : Below w1.heap.size w1 w3 := by
                have := hb3
                first | exact ((bal (Below.refl _ w1) _).drew).trans (this.mono (by simp)) | exact (bal (Below.refl _ w1).drew _).trans (this.mono (by simp)) | exact (bal (Below.refl _ w1) _).trans (this.mono (by simp))
              have y0 := cell_later hbb x0
              have y1 := cell_later hbb x1
              clear hb3)
           | (go_at_call 8; refine (HCK.out _ _ _ hbb hr3).mono ?_
              rintro e w4 ⟨rfl, hb4⟩
              have z0 := cell_later hb4 y0
              have z1 := cell_later hb4 y1))
  have HB4 : Hid (Below bx w w4) := (HB1.out.trans (hbb.mono (by omega))).trans (hb4.mono (by have := hbb.size; omega))
  clear x0 x1 y0 y1 hr3 hbb hb4 HCO HCK hbne hbne'
  generalize hE : chkC vars (numsOf rs ++ numsOf ps) = E at *
  have HE := hide hE
  clear hE
  by_cases he : E = 0
  · subst he
    have hmb : m ≤ maxLen := by unfold maxLen; omega
    have HAE := hide (anyEmpty q cq ps (by rw [HNL.out.2]; exact hmb) w4 (HD.out.rows.later (by rw [hbx]; exact HB4.out)))
    rw [HNL.out.2] at HAE
    cases hany : ps.any fun r => decide (r.ns.length = 0)
    · rw [hany] at HAE
      have HNO : Hid (¬ PrfOk (numsOf rs) (numsOf ps)) := fun h => by
        obtain ⟨r, hr, hre⟩ := List.mem_map.1 h.1
        have := List.any_eq_false.1 hany r hr
        simp [hre] at this
      clear hany
      go_wp2_with fail
      refine HAE.out.mono ?_
      rintro e w5 ⟨rfl, hb5⟩
      have HB5 : Hid (Below bx w w5) := HB4.out.trans (hb5.mono (by have := HB4.out.size; omega))
      clear hb5 HAE z0 z1
      go_wp2_with fail
      go_ret2
      exact ⟨false, by rw [HE.out]; rfl, ⟨(fun e => by cases e), fun e => absurd e.2 HNO.out⟩, by rw [hbx]; exact HB5.out⟩
    · rw [hany] at HAE
      have HEM : Hid ([] ∈ numsOf ps) := by
        obtain ⟨r, hr, hre⟩ := List.any_eq_true.1 hany
        exact List.mem_map.2 ⟨r, hr, List.eq_nil_of_length_eq_zero (by simpa using hre)⟩
      obtain ⟨v1, v2, v3, v4⟩ := chkC_zero HE.out
      rw [List.length_append, numsOf_len, numsOf_len, HNL.out.1, HNL.out.2] at v3
      have hx : ∀ r ∈ rs, r.ns.length ≤ 200 ∧ ∀ x ∈ r.ns, Num vars x := fun r hr => v4 r.ns (List.mem_append.2 (.inl (List.mem_map.2 ⟨r, hr, rfl⟩)))
      have hy : ∀ r ∈ ps, r.ns.length ≤ 200 ∧ ∀ x ∈ r.ns, Num vars x := fun r hr => v4 r.ns (List.mem_append.2 (.inr (List.mem_map.2 ⟨r, hr, rfl⟩)))
      have HY := hide hy
      have HV := hide (And.intro v2 hx)
      clear hany v1 v4 hx hy
      go_wp2_with fail
      refine HAE.out.mono ?_
      rintro e w5 ⟨rfl, hb5⟩
      have HB5 : Hid (Below bx w w5) := HB4.out.trans (hb5.mono (by have := HB4.out.size; omega))
      have u0 := cell_later hb5 z0
      have u1 := cell_later hb5 z1
      have HNW := hide (new_any vars HV.out.1 vars p cap rs (by rw [HNL.out.1]; omega) HV.out.2 w5 (HC.out.later (by rw [hbx]; exact HB5.out)))
      rw [HNL.out.1] at HNW
      clear hb5 HAE z0 z1
      go_wp2_with fail
      refine HNW.out.mono ?_
      rintro e w6 ⟨R, B0, X0, nS0, nW0, rfl, hb6, hB6, hX6, hI6, ⟨hl6, -⟩, hs6, hc6, hn1, hn2⟩
      have hsz5 : bx ≤ w5.heap.size := by have := HB5.out.size; omega
      have HB6 : Hid (Below bx w w6) := HB5.out.trans (hB6.mono hsz5)
      have HX0 : Hid (∀ g, X0 g → bx ≤ g) := fun g hg => by have := hX6 g hg; omega
      rw [List.length_map, HNL.out.1] at hc6
      have HJ0 : Hid (∃ B X nS nW, BdAt w6 X R nS nW B ∧ Fr X0 w6 w6 X ∧ Inv vars (numsOf rs ++ (numsOf ps).take 0) (fun _ => False) B ∧ B.level = 0 ∧ (B.lost = false → B.spread = B.sp.length) ∧ B.cl.length ≤ n + 0 ∧ nS ≤ 1000000000 + 0 * 2000000 ∧ nW ≤ 1000000000000 + 0 * 640200000002 ∧ ∀ j (hj : j < (numsOf ps).length), j < 0 → Confl (numsOf rs ++ (numsOf ps).take j) (negs (numsOf ps)[j])) :=
        ⟨B0, X0, nS0, nW0, hb6, Fr.refl _ _, by rw [List.take_zero, List.append_nil]; exact hI6, hl6, hs6, hc6, by omega, by omega, fun j _ hj => by omega⟩
      clear hb6 hB6 hX6 hI6 hl6 hs6 hc6 hn1 hn2 HNW u0 u1
      go_wp2_with fail
      go_loopw [31] (fun t wr => ∃ k : Nat, k ≤ m ∧ t = .int .i64 k ∧ Hid (∃ B X nS nW, BdAt wr X R nS nW B ∧ Fr X0 w6 wr X ∧ Inv vars (numsOf rs ++ (numsOf ps).take k) (fun _ => False) B ∧ B.level = 0 ∧ (B.lost = false → B.spread = B.sp.length) ∧ B.cl.length ≤ n + k ∧ nS ≤ 1000000000 + k * 2000000 ∧ nW ≤ 1000000000000 + k * 640200000002 ∧ ∀ j (hj : j < (numsOf ps).length), j < k → Confl (numsOf rs ++ (numsOf ps).take j) (negs (numsOf ps)[j]))) (fun t _ => m - (intOf t).toNat)
      case atStart => exact ⟨0, Nat.zero_le _, rfl, HJ0.out⟩
      case round =>
        obtain ⟨k, hk, rfl, HJ⟩ := hrel
        clear HJ0
        obtain ⟨B, X, nS, nW, hb, hF, hI, hlv, hsp, hcl, hnS, hnW, hall⟩ := HJ.out
        have hbw : Below bx w wr := HB6.out.trans (hF.below (base := bx) (by have := HB6.out.size; omega) HX0.out)
        have HBW := hide hbw
        by_cases hlt : k < m
        · have hlti : (k : Int) < (m : Int) := by omega
          have hkp : k < ps.length := by rw [HNL.out.2]; exact hlt
          have hkn : k < (numsOf ps).length := by rw [numsOf_len]; exact hkp
          have hDr := HD.out.later (by rw [hbx]; exact hbw)
          obtain ⟨b, off, hqe, hrow⟩ := hDr.rows (by omega)
          have x0 := hrow k hkp
          unfold Row.v at x0
          have hin := hDr.inn ps[k] (List.getElem_mem hkp)
          have hin0 := HD.out.inn ps[k] (List.getElem_mem hkp)
          obtain ⟨hy1, hy2⟩ := HY.out ps[k] (List.getElem_mem hkp)
          have hget : (numsOf ps)[k] = ps[k].ns := by simp [numsOf]
          have htk : numsOf rs ++ (numsOf ps).take k ++ [ps[k].ns] = numsOf rs ++ (numsOf ps).take (k + 1) := by
            rw [List.take_succ_eq_append_getElem hkn, hget, List.append_assoc]
          have hnx : 0 < ps[k].ns.length → ∀ a, ps[k].at' = some a → ¬ X a.block := fun h0 a ha hXa => by
            obtain ⟨b', off', hqe', hcell⟩ := hin0 h0
            rw [ha] at hqe'
            injection hqe' with hqe'
            subst hqe'
            have h1 := World.block_lt_of_cell? _ _ (hcell 0 h0)
            simp only at h1 hXa
            have h2 := hF.fro b' (by have := HB6.out.size; omega) hXa
            have := HX0.out b' h2
            omega
          have HFW := hide (follows_any wr X R nS nW B hb vars _ hI hlv hsp HV.out.1 (by omega) (by omega) (by omega) ps[k].at' ps[k].cap ps[k].ns hy1 hy2 hin hnx)
          have HY2 := hide (And.intro hy1 hy2)
          have HII := hide hin0
          have HTK := hide htk
          have HF := hide hF
          have HNB := hide (And.intro hcl (And.intro hnS hnW))
          have HALL : Hid (Confl (numsOf rs ++ (numsOf ps).take k) (negs ps[k].ns) → ∀ j (hj : j < (numsOf ps).length), j < k + 1 → Confl (numsOf rs ++ (numsOf ps).take j) (negs (numsOf ps)[j])) := fun h j hj hjk => by
            by_cases e : j = k
            · subst e; rw [hget]; exact h
            · exact hall j hj (by omega)
          have HNO : Hid (¬ Confl (numsOf rs ++ (numsOf ps).take k) (negs ps[k].ns) → ¬ PrfOk (numsOf rs) (numsOf ps)) := fun h h2 => h (by have := h2.2 k hkn; rw [hget] at this; exact this)
          subst hqe
          clear hrow hDr hin hin0 hy1 hy2 hget htk hnx hb hF hI hlv hsp hcl hnS hnW hall HJ hbw hkn
          generalize ps[k].ns = ns at *
          generalize ps[k].at' = rq at *
          generalize ps[k].cap = rc at *
          clear hkp
          obtain ⟨ln, hln⟩ : ∃ ln, ns.length = ln := ⟨_, rfl⟩
          rw [hln] at x0 HFW
          have HLN := hide hln
          clear hln
          go_wp2_with fail
          refine HFW.out.mono ?_
          rintro e w7 ⟨bb, B7, X7, nS7, nW7, rfl, hbc, hb7, hF7, hI7, hl7, hs7, hc7, hn7, hn7'⟩
          have HF7 := hide (HF.out.trans hF7)
          have HB7 : Hid (Below bx w w7) := HB6.out.trans (HF7.out.below (base := bx) (by have := HB6.out.size; omega) HX0.out)
          cases bb
          · have HNP := hide (HNO.out (fun h => by have := hbc.2 h; cases this))
            clear hbc hb7 hF7 hI7 hl7 hs7 hc7 hn7 hn7' HFW
            go_wp2_with fail
            go_ret2
            exact ⟨false, by rw [HE.out]; rfl, ⟨(fun e => by cases e), fun e => absurd e.2 HNP.out⟩, by rw [hbx]; exact HB7.out⟩
          · have HAL := hide (HALL.out (hbc.1 rfl))
            have HAD := hide (addB_any w7 X7 R nS7 nW7 B7 hb7 vars _ hI7 hl7 HV.out.1 (by have := HNB.out; omega) (by have := HNB.out; omega) (by have := HNB.out; omega) rq rc ns HY2.out.1 HY2.out.2 (HII.out.later (by rw [hbx]; exact HB7.out)))
            rw [HLN.out] at HAD
            have HN7 := hide (And.intro hc7 (And.intro hn7 hn7'))
            clear hbc hb7 hF7 hI7 hl7 hs7 hc7 hn7 hn7' HFW
            go_wp2_with fail
            refine HAD.out.mono ?_
            rintro e w8 ⟨rfl, B8, X8, nS8, nW8, hb8, hF8, hI8, ⟨hl8, -⟩, hc8, hn8, hn8'⟩
            rw [HTK.out] at hI8
            have HSP := hide (spread_any w8 X8 R nS8 nW8 B8 hb8 vars _ (fun _ => False) hI8 HV.out.1 (by have := HNB.out; have := HN7.out; omega) (by have := HNB.out; have := HN7.out; omega) (by have := HNB.out; have := HN7.out; omega))
            have HF8 := hide (HF7.out.trans hF8)
            have HN8 := hide (And.intro hl8 (And.intro hc8 (And.intro hn8 hn8')))
            clear hb8 hF8 hI8 hl8 hc8 hn8 hn8' HAD
            go_wp2_with fail
            refine HSP.out.mono ?_
            rintro e w9 ⟨f, B9, X9, nS9, nW9, rfl, hb9, hF9, hn9, hn9', hsl9, hsp9⟩
            have hsl : B9.sp.length ≤ 400001 := by have := HV.out.1; omega
            have HJ9 : Hid (∃ B X nS nW, BdAt w9 X R nS nW B ∧ Fr X0 w6 w9 X ∧ Inv vars (numsOf rs ++ (numsOf ps).take (k + 1)) (fun _ => False) B ∧ B.level = 0 ∧ (B.lost = false → B.spread = B.sp.length) ∧ B.cl.length ≤ n + (k + 1) ∧ nS ≤ 1000000000 + (k + 1) * 2000000 ∧ nW ≤ 1000000000000 + (k + 1) * 640200000002 ∧ ∀ j (hj : j < (numsOf ps).length), j < k + 1 → Confl (numsOf rs ++ (numsOf ps).take j) (negs (numsOf ps)[j])) := by
              have a1 := HNB.out
              have a2 := HN7.out
              have a3 := HN8.out
              refine ⟨B9, X9, nS9, nW9, hb9, HF8.out.trans hF9, ?_, hsp9.level.trans a3.1, ?_, ?_, ?_, ?_, HAL.out⟩
              · by_cases hf : f = -1
                · exact (hsp9.ok hf).1
                · exact ((hsp9.bad hf).2.2 a3.1).1
              · intro e0
                by_cases hf : f = -1
                · exact (hsp9.ok hf).2.1
                · rw [((hsp9.bad hf).2.2 a3.1).2] at e0; cases e0
              · rw [hsp9.cl]; omega
              · omega
              · omega
            clear hb9 hF9 hn9 hn9' hsl9 hsp9 HSP hsl
            go_wp2_with fail
            go_roundw
            case rel => exact ⟨k + 1, by omega, by go_num, HJ9.out⟩
            case measure => simp [intOf]; omega
        · have hlti : ¬ (k : Int) < (m : Int) := by omega
          have HOK : Hid (PrfOk (numsOf rs) (numsOf ps)) := ⟨HEM.out, fun j hj => hall j hj (by rw [numsOf_len, HNL.out.2] at hj; omega)⟩
          clear hb hF hI hlv hsp hcl hnS hnW hall HJ hbw
          go_wp2_with fail
          go_ret2
          exact ⟨true, by rw [HE.out]; rfl, ⟨fun _ => ⟨HE.out, HOK.out⟩, fun _ => rfl⟩, by rw [hbx]; exact HBW.out⟩
  · have heb : (E == 0) = false := by simpa using he
    have hen : (E != 0) = true := by simpa using he
    have HNE := hide he
    clear he z0 z1
    go_wp2_with fail
    go_ret2
    exact ⟨false, by rw [HE.out]; rfl, ⟨(fun e => by cases e), fun e => absurd (HE.out.symm.trans e.1) HNE.out⟩, by rw [hbx]; exact HB4.out⟩
end Go.Proofs.YtkinmangilbeeaaGreatDoor.Pf

namespace Go.Proofs.YtkinmangilbeeaaGreatDoor.Pf
open Go.RowKit Go.Maps Go.WideMaps
set_option maxRecDepth 100000

theorem find_any {l : List Int} {n : Int} {k : Nat} (hk : k < l.length) (h : l[k] = n) : decide (n ∈ l) = true := by
  simp; exact h ▸ List.getElem_mem hk
theorem find_none {l : List Int} {n : Int} (h : ∀ i (hi : i < l.length), (l[i] == n) = false) : decide (n ∈ l) = false := by
  simp
  intro hn
  obtain ⟨i, hi, e⟩ := List.getElem_of_mem hn
  have := h i hi
  rw [e] at this
  simp at this
set_option maxHeartbeats 1000000 in
theorem hasR_any (l : List Int) (hl : l.length ≤ 10000000) (p : Option Addr) (cap : Nat) (n : Int) (w : World) (hI : IntsAt w p l) :
    Calls Tryz.prog 45 #[.slice p l.length cap, .int .i64 n] w fun e w' => e = .returned (.bool (decide (n ∈ l))) ∧ w' = w := by
  have HI := hide hI
  clear hI
  go_enter Tryz.func45, Tryz.ntmps45
  go_wp2
  go_loopw [5] (fun i wr => ∃ k : Nat, k ≤ l.length ∧ i = .int .i64 k ∧ wr = w ∧ Hid (∀ i (hi : i < l.length), i < k → (l[i] == n) = false)) (fun i _ => l.length - (intOf i).toNat)
  case atStart => exact ⟨0, Nat.zero_le _, rfl, rfl, fun i hi h => by omega⟩
  case round =>
    obtain ⟨k, hk, rfl, rfl, hz⟩ := hrel
    by_cases hlt : k < l.length
    · obtain ⟨b, off, rfl, hc⟩ := HI.out (by omega)
      have d0 := hc k hlt
      have hkl : (k : Int) < (l.length : Int) := by omega
      have HY := hide (fun h => find_any (l := l) (n := n) hlt h)
      have HN : Hid ((l[k] == n) = false → ∀ i (hi : i < l.length), i < k + 1 → (l[i] == n) = false) := by
        intro h i hi hik
        rcases Nat.lt_succ_iff_lt_or_eq.1 hik with h1 | rfl
        · exact hz.out i hi h1
        · exact h
      clear hc hz
      generalize l[k] = x at *
      cases hf : (x == n)
      · have HN2 := hide (HN.out hf)
        clear HY HN
        go_wp2
        go_roundw
        case rel => exact ⟨k + 1, by omega, by go_num, by first | rfl | trivial, HN2⟩
        case measure => simp [intOf]; omega
      · have HY2 := hide (HY.out (by simpa using hf))
        clear HY HN
        go_wp2
        go_ret
        exact ⟨by rw [HY2.out]; rfl, rfl⟩
    · have HE : Hid (decide (n ∈ l) = false) := find_none (fun i hi => hz.out i hi (by omega))
      clear hz
      go_wp2
      go_ret
      exact ⟨by rw [HE.out]; rfl, rfl⟩
end Go.Proofs.YtkinmangilbeeaaGreatDoor.Pf
