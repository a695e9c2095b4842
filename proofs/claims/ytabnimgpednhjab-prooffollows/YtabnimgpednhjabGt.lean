/- GatesKeep: the walk. -/
import Derived.Test.YtabnimgpednhjabGsM
import Derived.Test.YtabnimgpednhjabGr
import Derived.Test.YtabnimgpednhjabGq
import Derived.Test.YtabnimgpednhjabGu
namespace Go.Proofs.Ytabnimgpednhjab
open Go.RowKit Go.Maps Go.WideMaps
set_option maxRecDepth 100000

theorem info3 : (Try.prog.info? 3).map (fun i => (i.zero, i.size, i.bytes)) = some (some (.int .i64 0), 1, 8) := by kernel_rfl
theorem owns_ints {w : World} {base : Nat} {v : Value} {l : List Int} (h : w.ownsRow base 3 1 v l.length (l.map (Value.int .i64))) : ∃ p cap, v = .slice p l.length cap ∧ IntsAt w p l ∧ (p = none → cap = 0) := by
  have h3 := h
  obtain ⟨h1, h2⟩ := h
  rcases h2 with ⟨rfl, h0⟩ | ⟨g, cap, cur, rfl, hg, hh, hn, hm, hs, ht⟩
  · exact ⟨none, 0, by rw [h0], fun h => by omega, fun _ => rfl⟩
  · refine ⟨_, cap, rfl, fun _ => ⟨g, 0, rfl, fun i hi => ?_⟩, fun h => by cases h⟩
    have := h3.cellAt i (by omega)
    rw [Nat.zero_add, this, List.getElem?_map, List.getElem?_eq_getElem hi]
    rfl
theorem ints_cells {w : World} {l : List Int} {ad : Addr} (h : IntsAt w (some ad) l) : ∀ j u, (l.map (Value.int .i64))[j]? = some u → w.cell? (ad.add j) = some u := by
  intro j u hj
  obtain ⟨hjl, hju⟩ := List.getElem?_eq_some_iff.1 hj
  have hjl' : j < l.length := by simpa using hjl
  obtain ⟨b, off, h, hc⟩ := h (by omega)
  cases h
  rw [Addr.add_lit, hc j hjl', ← hju]
  simp

theorem wp_append_ints {w : World} {o : Oper} {a : Act} {K : Act → World → Prop} {Q : Exit → Act → World → Prop} (s x : Operand)
    (ho : o.op = .call { callee := .builtin .append, args := #[s, x], argTypes := #[36, 36] })
    (base : Nat) (v : Value) (u l : List Int) (hs : a.eval s = v) (hown : w.ownsRow base 3 1 v u.length (u.map (Value.int .i64))) (p : Option Addr) (c : Nat) (hx : a.eval x = .slice p l.length c) (hB : IntsAt w p l) (hnil : p = none → c = 0)
    (hb : u.length + l.length ≤ 17592186044416) (hbase : base ≤ w.heap.size)
    (hK : ∀ v' w', w'.ownsRow base 3 1 v' (u ++ l).length ((u ++ l).map (Value.int .i64)) → w.grownBy w' v.ownBlock → K (a.put o.dst v') w') : o.wp Try.prog a w K Q := by
  obtain ⟨i0, hi, hz0, hz1, hz2⟩ := info_parts info3
  cases p with
  | none =>
    have h0 : l = [] := by
      cases l with
      | nil => rfl
      | cons a t => obtain ⟨b, off, h, _⟩ := hB (by simp); cases h
    subst h0
    obtain rfl := hnil rfl
    have hrun := run_append_owned_none (P := Try.prog) (w := w) base 36 o.type 3 i0 1 Try.underlying36 hi v u.length _ hown
    unfold Oper.wp
    simp only [List.length_nil] at hx
    simp [execOp, ho, resolve, invoke, builtin, hs, hx, hrun, Result.andThen]
    exact hK v w (by simpa using hown) ⟨rfl, rfl, rfl, Nat.le_refl _, fun _ _ _ => rfl⟩
  | some ad =>
    refine wp_append_own w s x 36 ho base 3 i0 (.int .i64 0) 1 8 Try.underlying36 hi hz0 hz1 hz2 rfl (by decide) v u.length _ hs hown ad l.length c (l.map (Value.int .i64)) hx (by simp) (ints_cells hB) ?_ (by unfold maxLen; omega) (by omega) hbase (fun v' w' a b _ => hK v' w' (by simpa using a) b)
    intro u hu
    obtain ⟨x, _, rfl⟩ := List.mem_map.1 hu
    rfl

theorem wpList_append_ints {w : World} {ops : Array Oper} {rest : List Oper} {o : Oper} {a : Act} {Q : Exit → Act → World → Prop} (hgd : o.guard = none) (s x : Operand)
    (ho : o.op = .call { callee := .builtin .append, args := #[s, x], argTypes := #[36, 36] })
    (base : Nat) (v : Value) (u l : List Int) (hs : a.eval s = v) (hown : w.ownsRow base 3 1 v u.length (u.map (Value.int .i64))) (p : Option Addr) (c : Nat) (hx : a.eval x = .slice p l.length c) (hB : IntsAt w p l) (hnil : p = none → c = 0)
    (hb : u.length + l.length ≤ 17592186044416) (hbase : base ≤ w.heap.size)
    (hK : ∀ v' w', w'.ownsRow base 3 1 v' (u ++ l).length ((u ++ l).map (Value.int .i64)) → w.grownBy w' v.ownBlock → wpList Try.prog ops Q rest (a.put o.dst v') w') : wpList Try.prog ops Q (o :: rest) a w :=
  wpList_plain hgd fun _ hK' => wp_append_ints s x ho base v u l hs hown p c hx hB hnil hb hbase fun v' w' h1 h2 => hK' _ _ (hK v' w' h1 h2)

theorem step_append_ints {w : World} {ops : Array Oper} {o : Oper} {a : Act} {K : Act → World → Prop} {Q : Exit → Act → World → Prop} {E : Prop} (hgd : o.guard = none) (s x : Operand)
    (ho : o.op = .call { callee := .builtin .append, args := #[s, x], argTypes := #[36, 36] })
    (base : Nat) (v : Value) (u l : List Int) (hs : a.eval s = v) (hown : w.ownsRow base 3 1 v u.length (u.map (Value.int .i64))) (p : Option Addr) (c : Nat) (hx : a.eval x = .slice p l.length c) (hB : IntsAt w p l) (hnil : p = none → c = 0)
    (hb : u.length + l.length ≤ 17592186044416) (hbase : base ≤ w.heap.size)
    (hK : ∀ v' w', w'.ownsRow base 3 1 v' (u ++ l).length ((u ++ l).map (Value.int .i64)) → w.grownBy w' v.ownBlock → K (a.put o.dst v') w') :
    if Region.wanted o (yielded ops a.tmps) = true then Oper.wp Try.prog o a w K Q else E := by
  have hw : Region.wanted o (yielded ops a.tmps) = true := by simp [Region.wanted, hgd]
  rw [if_pos hw]
  exact wp_append_ints s x ho base v u l hs hown p c hx hB hnil hb hbase hK

theorem ints_one {w : World} (x : Int) : IntsAt (w.alloc (.cells #[.int .i64 x] 3)) (some ⟨w.heap.size, 0, none⟩) [x] := fun _ => ⟨w.heap.size, 0, rfl, fun i hi => by
  match i, hi with
  | 0, _ => simp [go_sem]⟩

theorem owns_intsN {w : World} {base n : Nat} {v : Value} {l : List Int} (hn : l.length = n) (h : w.ownsRow base 3 1 v n (l.map (Value.int .i64))) : ∃ p cap, v = .slice p n cap ∧ IntsAt w p l ∧ (p = none → cap = 0) := by
  subst hn; exact owns_ints h
theorem IntsAt.grown {w w1 : World} {row : Option Nat} {b : Nat} {l : List Int} (h : IntsAt w (some ⟨b, 0, none⟩) l) (hg : w.grownBy w1 row) (hne : some b ≠ row) : IntsAt w1 (some ⟨b, 0, none⟩) l := by
  intro h0
  obtain ⟨b', o', e, hc⟩ := h h0
  cases e
  exact ⟨b, 0, rfl, fun i hi => hg.cell (hc i hi) hne⟩

/-- The first numbers. -/
def upto (k : Nat) : List Int := (List.range k).map (fun i : Nat => (i : Int))
theorem upto_succ (k : Nat) : upto (k + 1) = upto k ++ [(k : Int)] := by simp [upto, List.range_succ]
theorem upto_len (k : Nat) : (upto k).length = k := by simp [upto]
theorem upto_no (k : Nat) (e : Int) (h : (k : Int) ≤ e) : (upto k).any (noLit e) = false := by
  rw [List.any_eq_false]
  intro x hx
  obtain ⟨i, hi, rfl⟩ := List.mem_map.1 hx
  have := List.mem_range.1 hi
  simp [noLit]
  omega

set_option maxRecDepth 100000 in
set_option maxHeartbeats 8000000 in
theorem keep_walk (ins : Int) (p : Option Addr) (cap : Nat) (ps : List (Int × Int)) (hwf : WfP ps) (hl : ps.length ≤ 8796093021952) (a b : Int) (q : Option Addr) (qc : Nat) (bs : List Bool) (hbl : bs.length ≤ maxLen) (hqn : q = none → qc = 0)
    (w : World) (hP : PairsAt w p ps) (hB : BoolsAt w q bs) :
    Calls Try.prog 5 #[gval ins p ps.length cap, .int .i64 a, .int .i64 b, .slice q bs.length qc] w fun e w' => e = .returned (.bool true) ∧ Below w.heap.size w w' := by
  have hB0 : Below w.heap.size w (w.alloc (.cells #[.int .i64 ins, .slice p ps.length cap] 24)) := bal (Below.refl _ _) _
  have H1 := hide (fun (w' : World) (hb : Below w.heap.size w w') => and_any ins p cap ps hwf (by omega) a b _ (hP.later hb))
  have HB0 := hide hB0
  have HP := hide hP
  have HBB := hide hB
  have HQN := hide hqn
  have HWF := hide hwf
  have HBL := hide hbl
  clear hP hwf hB0 hB hqn hbl
  by_cases hae : andE ins ps a b = 0
  · obtain ⟨hc, ha0, ha1, hb0, hb1, hok⟩ := ande_zero hae
    obtain ⟨h0, h1, hlen, hst, hd⟩ := chk_zero hc
    obtain ⟨g1, g2, g3⟩ := out_ok (ins := ins) (ps := ps) (a := a) (b := b)
    have hmm : 0 ≤ min a b ∧ min a b ≤ max a b ∧ max a b < 2 * (1 + ins + ps.length) := ⟨by omega, by omega, by omega⟩
    have HCK2 : Hid (chkE ins (andPs ps a b) = 0) := chk_keep hc hmm.1 hmm.2.1 hmm.2.2 hok
    have HLK : Hid (ps.length ≤ (andPs ps a b).length) := len_keep ps _ _
    have HNK : Hid (∃ t, nodesV bs (andPs ps a b) (andPs ps a b).length = nodesV bs ps ps.length ++ t) := nodes_keep bs ps _ _
    have HLB : Hid (0 ≤ andLit ins ps a b ∧ andLit ins ps a b < 2 * (1 + ins + (andPs ps a b).length)) := lit_keep_bd h0 hmm.1 hmm.2.1 hmm.2.2 hok
    have HKL : Hid ((bs.length : Int) = ins → litV (nodesV bs (andPs ps a b) (andPs ps a b).length) (andLit ins ps a b) = (litV (nodesV bs ps ps.length) (min a b) && litV (nodesV bs ps ps.length) (max a b))) := fun e => by
      subst e
      exact keep_lit ps bs hc hmm.1 hmm.2.1 hmm.2.2 hok
    have HWQ : Hid (WfP (andPs ps a b)) := by
      have := (and_ref ins ps (min a b) (max a b) hlen).1 hok
      unfold andPs
      rw [this.1]
      exact wf_ref HWF.out _ _ ⟨by omega, by omega⟩ ⟨by omega, by omega⟩
    have HLQ : Hid ((andPs ps a b).length ≤ 1000000) := (chk_zero HCK2.out).2.2.1
    unfold AndOut at H1
    rw [hae, g1, g2, g3] at H1
    have HCE := hide hc
    clear hae g1 g2 g3 hmm hok hst hd hc
    generalize hqs : andPs ps a b = qs at *
    generalize hnl : andLit ins ps a b = nl at *
    clear hqs hnl
    go_enter Try.func5, Try.ntmps5
    go_wp2_with fail
    refine (begun_any _).mono ?_
    rintro e w1 ⟨rfl, hb1'⟩
    have q0 := cell_later hb1' (a := ⟨w.heap.size, 0, none⟩) (v := .int .i64 ins) (by simp [go_sem])
    have q1 := cell_later hb1' (a := ⟨w.heap.size, 1, none⟩) (v := .slice p ps.length cap) (by simp [go_sem])
    have HB1 := hide (bthen HB0.out hb1')
    clear hb1'
    go_wp2_with fail
    refine (H1.out _ HB1.out).mono ?_
    rintro e w2 ⟨⟨pv, cv, rfl, hpx⟩, hb2⟩
    have hbX : Below w2.heap.size w2 (w2.alloc (.cells #[.int .i64 ins, .slice pv qs.length cv] 24)) := bal (Below.refl _ _) _
    have q0' := cell_later (bthen hb2 hbX) q0
    have q1' := cell_later (bthen hb2 hbX) q1
    have x0 : (w2.alloc (.cells #[.int .i64 ins, .slice pv qs.length cv] 24)).cell? ⟨w2.heap.size, 0, none⟩ = some (.int .i64 ins) := by simp [go_sem]
    have x1 : (w2.alloc (.cells #[.int .i64 ins, .slice pv qs.length cv] 24)).cell? ⟨w2.heap.size, 1, none⟩ = some (.slice pv qs.length cv) := by simp [go_sem]
    have HB2 := hide (bthen HB1.out (bthen hb2 hbX))
    have HPX := hide (hpx.later hbX)
    have HCQ := hide (check_any ins pv cv qs HWQ.out (by have := HLQ.out; omega) _ HPX.out)
    rw [HCK2.out] at HCQ
    clear hb2 hpx q0 q1 HB1 H1 hbX
    go_wp2_with fail
    refine HCQ.out.mono ?_
    rintro e w3 ⟨rfl, hb3⟩
    have k0 := cell_later hb3 q0'
    have k1 := cell_later hb3 q1'
    have l0 := cell_later hb3 x0
    have l1 := cell_later hb3 x1
    have HB3 := hide (bthen HB2.out hb3)
    have HPX3 := hide (HPX.out.later hb3)
    have hii : (ins != ins) = false := by simp
    have hlq : decide (qs.length < ps.length) = false := by have := HLK.out; simp; omega
    have hlq2 : decide ((qs.length : Int) < (ps.length : Int)) = false := by have := HLK.out; simp; omega
    clear hb3 q0' q1' x0 x1 HB2 HPX HCQ
    obtain ⟨n0, hn0⟩ : ∃ n0 : Nat, (n0 : Int) = 2 * (1 + ins + ps.length) := ⟨(2 * (1 + ins + ps.length)).toNat, by omega⟩
    have HN0 := hide hn0
    have hn1 : n0 ≤ 3000000 := by omega
    clear hn0
    go_wp2
    go_loopw [12, 13] (fun v i wr => ∃ k : Nat, k ≤ n0 ∧ i = .int .i64 k ∧ wr.ownsRow w3.heap.size 3 1 v (upto k).length ((upto k).map (Value.int .i64)) ∧ Below w3.heap.size w3 wr) (fun _ i _ => n0 - (intOf i).toNat)
    case atStart => exact ⟨0, Nat.zero_le _, rfl, World.ownsRow_nil _ _ _ _, Below.refl _ _⟩
    case round =>
      obtain ⟨k, hk, rfl, hown, hbw⟩ := hrel
      have hszw := hbw.size
      have k0' := cell_later hbw k0
      have k1' := cell_later hbw k1
      by_cases hlt : k < n0
      · have hki : (k : Int) < 2 * (1 + ins + ps.length) := by have := HN0.out; omega
        have HOW := hide hown
        have HBW := hide hbw
        have HUL := hide (upto_len k)
        have HUS := hide (upto_succ k)
        clear hown hbw
        generalize upto k = us at *
        go_wp2_with (at_builtin; refine wpList_append_ints rfl _ _ rfl w3.heap.size _ us [(k : Int)] rfl (HOW.out.alloc _) _ _ rfl (ints_one (k : Int)) (fun h => by cases h) (by simp; rw [HUL.out]; omega) (by simp; omega) ?_)
        intro v' w6 hown6 hg6
        have HB6 := hide ((bal HBW.out _).grown hg6 (by simp; omega) (fun j hj => (HOW.out.lt j hj).1))
        have hown7 : w6.ownsRow w3.heap.size 3 1 v' (upto (k + 1)).length ((upto (k + 1)).map (Value.int .i64)) := by rw [HUS.out]; simpa using hown6
        clear hown6 hg6
        go_wp2
        go_roundw
        case rel => exact ⟨k + 1, by omega, by go_num, hown7, HB6.out⟩
        case measure => simp [intOf]; omega
      · obtain rfl : k = n0 := by omega
        have hki : ¬ (k : Int) < 2 * (1 + ins + ps.length) := by have := HN0.out; omega
        have l0' := cell_later hbw l0
        have l1' := cell_later hbw l1
        obtain ⟨pl, cl, rfl, hil, hnl0⟩ := owns_ints hown
        have HUL := hide (upto_len k)
        have HUN := hide (upto_no k (2 * (1 + ins + ps.length)) (by have := HN0.out; omega))
        have HEV := hide (evalC_any ins p cap ps HWF.out (by omega) q qc bs HBL.out HQN.out pl cl (upto k) (by rw [HUL.out]; omega) wr (HP.out.later (bthen HB3.out hbw)) (HBB.out.later (bthen HB3.out hbw)) hil)
        have HEE : Hid (evE ins ps bs (upto k) = if (bs.length : Int) ≠ ins then 1 else 0) := by unfold evE; rw [if_neg (by simpa using HCE.out), HUN.out]; rfl
        have HB4 := hide (bthen HB3.out hbw)
        have HPX4 := hide (HPX3.out.later hbw)
        have HIL := hide hil
        have HNL0 := hide hnl0
        clear k0 k1 l0 l1 hown hbw hil hnl0 HPX3 HB3 hlt
        by_cases hbi : (bs.length : Int) = ins
        · have HE0 : Hid (evE ins ps bs (upto k) = 0) := by rw [HEE.out, if_neg (by simpa using hbi)]; rfl
          rw [HE0.out] at HEV
          have HLE : Hid (evL ps bs (upto k) 0 = (upto k).map (litV (nodesV bs ps ps.length))) := rfl
          have HKL2 := hide (HKL.out hbi)
          clear HEE HE0 HKL
          subst hbi
          obtain ⟨t, ht⟩ := HNK.out
          have HVN := hide (nodesV_len bs ps ps.length)
          have HVQ := hide ht
          rw [ht] at HKL2
          clear ht HNK
          generalize hL : evL ps bs (upto k) 0 = L at *
          have HLL : Hid (L.length = k) := by rw [HLE.out, List.length_map]; exact upto_len k
          have HLa : Hid (∀ x : Int, 0 ≤ x → x < k → L.getD x.toNat false = litV (nodesV bs ps ps.length) x) := fun x hx hxk => by
            rw [HLE.out, List.getD_eq_getElem?_getD, List.getElem?_map, upto, List.getElem?_map, List.getElem?_range (by omega)]
            simp
            congr 1
            omega
          have HEV2 := hide (fun (w' : World) (hb : Below w.heap.size w w') (hpx : PairsAt w' pv qs) (rr : Option Addr) (rc : Nat) (hi : IntsAt w' rr (upto k ++ [nl])) => evalC_any (bs.length : Int) pv cv qs HWQ.out (by have := HLQ.out; omega) q qc bs HBL.out HQN.out rr rc (upto k ++ [nl]) (by rw [List.length_append, upto_len]; simp; omega) w' hpx (HBB.out.later hb) hi)
          have HE2 : Hid (evE (bs.length : Int) qs bs (upto k ++ [nl]) = 0) := by
            unfold evE
            rw [if_neg (by simpa using HCK2.out), List.any_append, upto_no k _ (by have := HLK.out; have := HN0.out; omega)]
            simp only [List.any_cons, List.any_nil, Bool.or_false, Bool.false_or]
            have : noLit (2 * (1 + (bs.length : Int) + qs.length)) nl = false := by simp [noLit]; exact HLB.out
            rw [this, if_neg (by decide), if_neg (by simp)]
            rfl
          have HL2 : Hid (evL qs bs (upto k ++ [nl]) 0 = L ++ [L.getD a.toNat false && L.getD b.toNat false]) := by
            have e1 : evL qs bs (upto k ++ [nl]) 0 = (upto k ++ [nl]).map (litV (nodesV bs qs qs.length)) := rfl
            rw [Hid, e1, List.map_append, HVQ.out, HLE.out]
            have e2 : (upto k).map (litV (nodesV bs ps ps.length ++ t)) = (upto k).map (litV (nodesV bs ps ps.length)) := List.map_congr_left fun x hx => by
              obtain ⟨i, hi, rfl⟩ := List.mem_map.1 hx
              have := List.mem_range.1 hi
              exact litV_app _ _ _ (by omega) (by have := HN0.out; rw [HVN.out]; omega)
            rw [e2, ← HLE.out, HLa.out a ha0 (by have := HN0.out; omega), HLa.out b hb0 (by have := HN0.out; omega)]
            simp only [List.map_cons, List.map_nil]
            rw [HKL2.out]
            rcases Int.le_total a b with h | h
            · rw [Int.min_eq_left h, Int.max_eq_right h]
            · rw [Int.min_eq_right h, Int.max_eq_left h, Bool.and_comm]
          rw [HE2.out, HL2.out] at HEV2
          clear HKL2 HLE HE2 HL2 HVQ HVN HLa hL
          generalize hus : upto k = us at *
          go_wp2_with fail
          refine HEV.out.mono ?_
          rintro e w5 ⟨pr, cr, rfl, hbr, hb5, hcr⟩
          have x0 := cell_later hb5 l0'
          have x1 := cell_later hb5 l1'
          have HB5 := hide (bthen HB4.out hb5)
          have HPX5 := hide (HPX4.out.later hb5)
          have HIL5 := hide (HIL.out.later hb5)
          have HBR5 := hide hbr
          clear hb5 l0' l1' k0' k1' HPX4 HIL HB4 HEV hbr
          obtain ⟨m1, hm1⟩ : ∃ m1, m1 = L.length + 1 := ⟨_, rfl⟩
          have HM1 := hide hm1
          have HEV3 : Hid (∀ (w' : World), Below w.heap.size w w' → PairsAt w' pv qs → ∀ (rr : Option Addr) (rc : Nat), IntsAt w' rr (us ++ [nl]) →
              Calls Try.prog 16 #[gval (bs.length : Int) pv qs.length cv, .slice q bs.length qc, .slice rr (us.length + 1) rc] w' fun e w'' => ∃ pu cu,
                e = .returned (.tuple #[.slice pu m1 cu, .int .i64 0]) ∧ BoolsAt w'' pu (L ++ [L.getD a.toNat false && L.getD b.toNat false]) ∧ Below w'.heap.size w' w'' ∧ m1 ≤ cu) := fun w' h1 h2 rr rc h3 => by
            have := HEV2.out w' h1 h2 rr rc h3
            rw [List.length_append, List.length_append] at this
            rw [hm1]
            exact this
          have HA1 : Hid ((w5.alloc (.cells #[] 3)).drew.ownsRow w5.heap.size 3 1 (.slice (some ⟨w5.heap.size, 0, none⟩) 0 0) ([] : List Int).length (([] : List Int).map (Value.int .i64))) := (World.ownsRow_made w5 #[] 0 (Nat.le_refl _) (Nat.zero_le _) rfl).drew
          have HA2 : Hid (((w5.alloc (.cells #[] 3)).alloc (.cells #[.int .i64 nl] 3)).drew.ownsRow w5.heap.size 3 1 (.slice (some ⟨w5.heap.size, 0, none⟩) 0 0) ([] : List Int).length (([] : List Int).map (Value.int .i64))) := ((World.ownsRow_made w5 #[] 0 (Nat.le_refl _) (Nat.zero_le _) rfl).alloc _).drew
          have HA3 : Hid (((w5.alloc (.cells #[.int .i64 nl] 3)).alloc (.cells #[] 3)).drew.ownsRow w5.heap.size 3 1 (.slice (some ⟨w5.heap.size + 1, 0, none⟩) 0 0) ([] : List Int).length (([] : List Int).map (Value.int .i64))) := by
            have := (World.ownsRow_made (base := w5.heap.size) (e := 3) (size := 1) (w5.alloc (.cells #[.int .i64 nl] 3)) #[] 0 (by simp) (Nat.zero_le _) rfl).drew
            simpa [Hid] using this
          have HC1 : Hid (Below w5.heap.size w5 (w5.alloc (.cells #[] 3)).drew) := (bal (Below.refl _ _) _).drew
          have HC2 : Hid (Below w5.heap.size w5 ((w5.alloc (.cells #[] 3)).alloc (.cells #[.int .i64 nl] 3)).drew) := (bal (bal (Below.refl _ _) _) _).drew
          have HC3 : Hid (Below w5.heap.size w5 ((w5.alloc (.cells #[.int .i64 nl] 3)).alloc (.cells #[] 3)).drew) := (bal (bal (Below.refl _ _) _) _).drew
          have HO2 : Hid (IntsAt ((w5.alloc (.cells #[] 3)).alloc (.cells #[.int .i64 nl] 3)).drew (some ⟨w5.heap.size + 1, 0, none⟩) [nl]) := fun _ => ⟨w5.heap.size + 1, 0, rfl, fun i hi => by
            match i, hi with
            | 0, _ => simp [go_sem]⟩
          have HO3 : Hid (IntsAt ((w5.alloc (.cells #[.int .i64 nl] 3)).alloc (.cells #[] 3)).drew (some ⟨w5.heap.size, 0, none⟩) [nl]) := fun _ => ⟨w5.heap.size, 0, rfl, fun i hi => by
            match i, hi with
            | 0, _ => simp [go_sem]⟩
          clear hm1 HEV2 hus HUN HCK2 HCE HLK hlq hlq2 hszw hk hki
          go_wp2
          go_region_held3 (fun w' => w'.cell? ⟨w2.heap.size, 0, none⟩ = some (.int .i64 bs.length) ∧ w'.cell? ⟨w2.heap.size, 1, none⟩ = some (.slice pv qs.length cv))
            (first | exact ⟨cell_later hbE x0, cell_later hbE x1⟩ | exact ⟨cell_later hbB x0, cell_later hbB x1⟩ | exact ⟨past1 (cell_later hbA x0) _, past1 (cell_later hbA x1) _⟩ | exact ⟨cell_later hbA x0, cell_later hbA x1⟩ | go_keep)
            (first
              | (refine step_append_ints rfl (.tmp 79) (.tmp 81) rfl w5.heap.size (.slice pa us.length ca) us [nl] ?_ HOA.out _ 1 ?_ hOI (fun h => by cases h) ?_ ?_ ?_
                 · simp [Act.eval]
                 · simp [Act.eval]
                 · simp; rw [HUL.out]; omega
                 · exact hbA.size
                 intro v2 wb ho2 hg2
                 have hbB : Below w5.heap.size w5 wb := hbA.grown hg2 hbA.size (fun j hj => (HOA.out.lt j hj).1)
                 have ho2' : wb.ownsRow w5.heap.size 3 1 v2 (us.length + 1) ((us ++ [nl]).map (Value.int .i64)) := by
                   have h := ho2
                   rw [List.length_append] at h
                   exact h
                 obtain ⟨pb, cb, rfl, hib, _⟩ := owns_intsN (l := us ++ [nl]) (by simp) ho2'
                 have HIB := hide hib
                 clear ho2 ho2' hg2 hib)
              | (refine step_append_ints rfl (.tmp 79) (.tmp 81) rfl w5.heap.size (.slice pa us.length ca) us [nl] ?_ (HOA.out.alloc _) (some ⟨wa.heap.size, 0, none⟩) 1 ?_ (ints_one nl) (fun h => by cases h) ?_ ?_ ?_
                 · simp [Act.eval]
                 · simp [Act.eval]
                 · simp; rw [HUL.out]; omega
                 · have := hbA.size; simp; omega
                 intro v2 wb ho2 hg2
                 have hbB : Below w5.heap.size w5 wb := (bal hbA _).grown hg2 (by have := hbA.size; simp; omega) (fun j hj => (HOA.out.lt j hj).1)
                 have ho2' : wb.ownsRow w5.heap.size 3 1 v2 (us.length + 1) ((us ++ [nl]).map (Value.int .i64)) := by
                   have h := ho2
                   rw [List.length_append] at h
                   exact h
                 obtain ⟨pb, cb, rfl, hib, _⟩ := owns_intsN (l := us ++ [nl]) (by simp) ho2'
                 have HIB := hide hib
                 clear ho2 ho2' hg2 hib)
              | (refine step_append_ints rfl (.tmp 77) (.tmp 78) rfl w5.heap.size _ [] us ?_ HA1.out pl cl ?_ (HIL5.out.later HC1.out) HNL0.out ?_ ?_ ?_
                 · simp [Act.eval]
                 · simp [Act.eval]
                 · simp; rw [HUL.out]; omega
                 · simp <;> omega
                 intro v1 wa ho1 hg1
                 have hbA : Below w5.heap.size w5 wa := HC1.out.grown hg1 (by simp <;> omega) (by intro j hj; simp [Value.ownBlock] at hj; omega)
                 have ho1' : wa.ownsRow w5.heap.size 3 1 v1 us.length (us.map (Value.int .i64)) := ho1
                 obtain ⟨pa, ca, rfl, _, _⟩ := owns_ints ho1'
                 have HOA := hide ho1'
                 clear ho1 ho1' hg1)
              | (refine step_append_ints rfl (.tmp 77) (.tmp 78) rfl w5.heap.size _ [] us ?_ HA2.out pl cl ?_ (HIL5.out.later HC2.out) HNL0.out ?_ ?_ ?_
                 · simp [Act.eval]
                 · simp [Act.eval]
                 · simp; rw [HUL.out]; omega
                 · simp <;> omega
                 intro v1 wa ho1 hg1
                 have hbA : Below w5.heap.size w5 wa := HC2.out.grown hg1 (by simp <;> omega) (by intro j hj; simp [Value.ownBlock] at hj; omega)
                 have hOI := HO2.out.grown hg1 (by simp [Value.ownBlock])
                 have ho1' : wa.ownsRow w5.heap.size 3 1 v1 us.length (us.map (Value.int .i64)) := ho1
                 obtain ⟨pa, ca, rfl, _, _⟩ := owns_ints ho1'
                 have HOA := hide ho1'
                 clear ho1 ho1' hg1)
              | (refine step_append_ints rfl (.tmp 77) (.tmp 78) rfl w5.heap.size _ [] us ?_ HA3.out pl cl ?_ (HIL5.out.later HC3.out) HNL0.out ?_ ?_ ?_
                 · simp [Act.eval]
                 · simp [Act.eval]
                 · simp; rw [HUL.out]; omega
                 · simp <;> omega
                 intro v1 wa ho1 hg1
                 have hbA : Below w5.heap.size w5 wa := HC3.out.grown hg1 (by simp <;> omega) (by intro j hj; simp [Value.ownBlock] at hj; omega)
                 have hOI := HO3.out.grown hg1 (by simp [Value.ownBlock])
                 have ho1' : wa.ownsRow w5.heap.size 3 1 v1 us.length (us.map (Value.int .i64)) := ho1
                 obtain ⟨pa, ca, rfl, _, _⟩ := owns_ints ho1'
                 have HOA := hide ho1'
                 clear ho1 ho1' hg1)
              | (go_at_call 16; refine (HEV3.out _ (bthen HB5.out hbB) (HPX5.out.later hbB) _ _ HIB.out).mono ?_; rintro e wE ⟨pu, cu, rfl, hbu, hbE', hcu⟩; have hbE := bthen hbB hbE'; have HBU := hide hbu; clear hbE' hbu)
              | fail)
          all_goals
            have haL : a < (L.length : Int) := by have h1 := HLL.out; have h2 := HN0.out; omega
            have hbL : b < (L.length : Int) := by have h1 := HLL.out; have h2 := HN0.out; omega
            have HBE := hide (bthen HB5.out hbE)
            obtain ⟨ub, uo, rfl, huc⟩ := HBU.out (by simp)
            obtain ⟨rb, ro, rfl, hrc⟩ := (HBR5.out.later hbE) (by omega)
            have cZ := huc L.length (by simp)
            rw [List.getElem_append_right (Nat.le_refl _)] at cZ
            simp only [Nat.sub_self, List.getElem_cons_zero] at cZ
            have cA := hrc a.toNat (by omega)
            have cB := hrc b.toNat (by omega)
            rw [← getD_bools (by omega)] at cA cB
            have HUP : Hid (BoolsAt wE (some ⟨ub, uo, none⟩) L) := fun _ => ⟨ub, uo, rfl, fun i hi => by
              have := huc i (by simp; omega)
              rwa [List.getElem_append_left hi] at this⟩
            have HRP : Hid (BoolsAt wE (some ⟨rb, ro, none⟩) L) := fun _ => ⟨rb, ro, rfl, hrc⟩
            have HSB := hide (fun n => Calls.quiet_of (sameBools_quiet L L (some ⟨ub, uo, none⟩) (some ⟨rb, ro, none⟩) cu cr (by have := HLL.out; unfold maxLen; omega) (wE.drewN n) HUP.out HRP.out))
            rw [dec_self] at HSB
            have hll1 : ((m1 : Int) == (L.length : Int) + 1) = true := by have := HM1.out; simp; omega
            have hidx : (L.length : Int) < (m1 : Int) := by have := HM1.out; omega
            have hLc : L.length ≤ cu := by have := HM1.out; omega
            have hLc2 : (L.length : Int) ≤ (cu : Int) := by omega
            have hLp : (0 : Int) ≤ (L.length : Int) := by omega
            have hLm : (L.length : Int) ≤ 3000000 := by have h1 := HLL.out; omega
            have hwL := wrap_id (x := (L.length : Int) + 1) (by omega) (by omega)
            clear huc hrc HUP HRP HBU HBR5 hbE hbA HOA hbB HIB HEV3 HA1 HA2 HA3 HC1 HC2 HC3 HO2 HO3 x0 x1 HPX5 HIL5 HB5
            generalize L.getD a.toNat false = la at *
            generalize L.getD b.toNat false = lb at *
            cases la
            all_goals
              simp only [Bool.false_and, Bool.true_and] at cZ
              go_wp2
              go_quiet ((go_at_call 20; exact HSB.out _))
              go_wp2
              go_ret
              exact ⟨rfl, bdn HBE.out _⟩
        · have HE1 : Hid (evE ins ps bs (upto k) = 1) := by rw [HEE.out, if_pos hbi]; rfl
          rw [HE1.out] at HEV
          clear HEE HE1
          generalize evL ps bs (upto k) 1 = L at *
          generalize upto k = us at *
          go_wp2_with fail
          refine HEV.out.mono ?_
          rintro e w5 ⟨pr, cr, rfl, _, hb5, _⟩
          have HB5 := hide (bthen HB4.out hb5)
          clear hb5
          go_wp2
          go_ret
          exact ⟨rfl, HB5.out⟩
  · obtain ⟨g1, g2, g3⟩ := out_no (ins := ins) (ps := ps) (a := a) (b := b) hae
    unfold AndOut at H1
    rw [g1, g2, g3] at H1
    have hne : (andE ins ps a b != 0) = true := by simpa using hae
    clear g1 g2 g3 hae
    generalize andE ins ps a b = R at *
    go_enter Try.func5, Try.ntmps5
    go_wp2_with fail
    refine (begun_any _).mono ?_
    rintro e w1 ⟨rfl, hb1⟩
    have q0 := cell_later hb1 (a := ⟨w.heap.size, 0, none⟩) (v := .int .i64 ins) (by simp [go_sem])
    have q1 := cell_later hb1 (a := ⟨w.heap.size, 1, none⟩) (v := .slice p ps.length cap) (by simp [go_sem])
    have HB1 := hide (bthen HB0.out hb1)
    clear hb1
    go_wp2_with fail
    refine (H1.out _ HB1.out).mono ?_
    rintro e w2 ⟨⟨pv, cv, rfl, _⟩, hb2⟩
    have HB2 := hide (bthen HB1.out hb2)
    clear hb2
    go_wp2
    go_ret
    exact ⟨rfl, bal HB2.out _⟩

end Go.Proofs.Ytabnimgpednhjab
