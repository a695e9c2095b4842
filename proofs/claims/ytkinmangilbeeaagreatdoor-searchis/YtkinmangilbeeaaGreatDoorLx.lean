/- The plain text of a proof: the walks. -/
import Derived.Lib.AppendZeros
import Derived.Test.YtkinmangilbeeaaGreatDoorLwM
import Derived.Deep.DeepAppendWide
namespace Go.Proofs.YtkinmangilbeeaaGreatDoor.Sr
open Go.RowKit Go.Maps Go.Proofs.YtkinmangilbeeaaGreatDoor.Pf
set_option maxRecDepth 100000

/-- A list of clauses is laid behind another. -/
theorem rows_append {w : World} {base : Nat} {v : Value} {u l : List Row} (hown : w.ownsRow base 38 1 v u.length (u.map Row.v)) {p : Option Addr} {c : Nat} (hB : RowsAt w p l) (hnil : p = none → c = 0) (hb : u.length + l.length ≤ 9000000000000) (hbase : base ≤ w.heap.size) (ty : TypeId) :
    ∃ v' w', (Builtin.append_ #[22, 22] ty #[v, .slice p l.length c]).run Tryz.prog w = .ok v' w' ∧ w'.ownsRow base 38 1 v' (u ++ l).length ((u ++ l).map Row.v) ∧ w.grownBy w' v.ownBlock := by
  obtain ⟨i0, hi, hz0, hz1, hz2⟩ := info_parts infoR
  cases p with
  | none =>
    have h0 : l = [] := by
      cases l with
      | nil => rfl
      | cons a t => obtain ⟨b, off, h, _⟩ := hB (by simp); cases h
    subst h0
    obtain rfl := hnil rfl
    exact ⟨v, w, run_append_owned_none (P := Tryz.prog) (w := w) base 22 ty 38 i0 1 Tryz.underlying22 hi v u.length _ hown, by simpa using hown, ⟨rfl, rfl, rfl, Nat.le_refl _, fun _ _ _ => rfl⟩⟩
  | some ad =>
    obtain ⟨v', w', h1, h2, h3, _⟩ := run_append_own_wide (P := Tryz.prog) w base 22 ty 38 i0 (.slice none 0 0) 1 24 Tryz.underlying22 hi hz0 hz1 hz2 rfl (by decide) v u.length _ hown ad l.length c (l.map Row.v) (by simp) (rows_cells hB) (fun u hu => by obtain ⟨x, _, rfl⟩ := List.mem_map.1 hu; rfl) (by unfold maxLen; omega) (by omega) hbase
    exact ⟨v', w', h1, by simpa using h2, h3⟩
/-- An own row of clauses, as a list. -/
theorem owns_rows {w : World} {base : Nat} {v : Value} {u : List Row} (h : w.ownsRow base 38 1 v u.length (u.map Row.v)) : ∃ p c, v = .slice p u.length c ∧ RowsAt w p u ∧ (p = none → c = 0) := by
  rcases h.2 with ⟨rfl, h0⟩ | ⟨g, cap, cur, rfl, _⟩
  · exact ⟨none, 0, by rw [h0], fun h1 => by omega, fun _ => rfl⟩
  · refine ⟨_, cap, rfl, fun _ => ⟨g, 0, rfl, fun i hi => ?_⟩, fun e => by cases e⟩
    have := h.cells (g := g) rfl i u[i].v (by rw [List.getElem?_map, List.getElem?_eq_getElem hi]; rfl)
    rw [Addr.add_lit] at this
    exact this
theorem grown_below {w w' : World} {v : Value} {base : Nat} (h : w.grownBy w' v.ownBlock) (hv : ∀ g, v.ownBlock = some g → base ≤ g) (hb : base ≤ w.heap.size) : Below base w w' := ⟨h.os, h.tape, h.output, h.size, fun k hk => h.block k (by omega) fun e => by have := hv k e.symm; omega⟩
/-- What the plain text says of a proof. -/
def PoOut (w : World) (L P : List (List Int)) (e : Ending) (w' : World) : Prop := ∃ b, e = .returned (.bool b) ∧ (b = true ↔ PrfOk L P) ∧ Below w.heap.size w w'
set_option maxHeartbeats 8000000 in
theorem proofOf_any (V : Int) (hV : 0 ≤ V ∧ V ≤ 200000) (p q : Option Addr) (cap cq : Nat) (rs ps : List Row) (hr : rs.length + ps.length ≤ 800000) (hx : ∀ r ∈ rs ++ ps, r.ns.length ≤ 200 ∧ ∀ x ∈ r.ns, Num V x) (hp : p = none → cap = 0) (w : World) (hC : ClAt w p rs) (hD : ClAt w q ps) :
    Calls Tryz.prog 15 #[cval V p rs.length cap, .slice q ps.length cq] w (PoOut w (numsOf rs) (numsOf ps)) := by
  obtain ⟨n, hn⟩ : ∃ n, rs.length = n := ⟨_, rfl⟩
  obtain ⟨m, hm⟩ : ∃ m, ps.length = m := ⟨_, rfl⟩
  have hB1 : Below w.heap.size w ((w.alloc (.cells #[.int .i64 V, .slice p n cap] 24)).alloc (.cells #[] 38)) := bal (bal (Below.refl _ _) _) _
  have hG1 : ((w.alloc (.cells #[.int .i64 V, .slice p n cap] 24)).alloc (.cells #[] 38)).heap[w.heap.size + 1]? = some (.cells #[] 38) := by
    have := (MapKept.heap_alloc (w.alloc (.cells #[.int .i64 V, .slice p n cap] 24)) (.cells #[] 38)).1
    rw [World.size_alloc] at this
    exact this
  have x1 : ((w.alloc (.cells #[.int .i64 V, .slice p n cap] 24)).alloc (.cells #[] 38)).cell? ⟨w.heap.size, 1, none⟩ = some (.slice p n cap) := by simp [go_sem]
  have hown0 : ((w.alloc (.cells #[.int .i64 V, .slice p n cap] 24)).alloc (.cells #[] 38)).ownsRow w.heap.size 38 1 (.slice (some ⟨w.heap.size + 1, 0, none⟩) 0 0) ([] : List Row).length (([] : List Row).map Row.v) := ⟨rfl, .inr ⟨w.heap.size + 1, 0, #[], rfl, by omega, hG1, Nat.le_refl _, by decide, rfl, rfl⟩⟩
  obtain ⟨v2, w2, hr1, ho2, hg2⟩ := rows_append hown0 (hC.rows.later hB1) hp (by simp; omega) hB1.size 22
  have hb2 : Below w.heap.size w w2 := hB1.trans (grown_below hg2 (fun g hg => by simp [Value.ownBlock] at hg; omega) hB1.size)
  rw [hn] at hr1
  rw [hn, hm]
  have HX := hide hx
  have HC := hide hC
  have HD := hide hD
  have HNM := hide (And.intro hn hm)
  have HJ0 : Hid (w2.ownsRow w.heap.size 38 1 v2 (rs ++ ps.take 0).length ((rs ++ ps.take 0).map Row.v) ∧ Below w.heap.size w w2 ∧ ∀ j (h : j < (numsOf ps).length), j < 0 → Confl (numsOf rs ++ (numsOf ps).take j) (negs (numsOf ps)[j])) := ⟨by simpa using ho2, hb2, fun j _ h => by omega⟩
  have hnm : n + m ≤ 800000 := by omega
  clear hx hC hD hB1 hG1 hown0 ho2 hg2 hb2 hp hn hm hr
  unfold cval
  go_enter Tryz.func15, Tryz.ntmps15
  go_wp2_with (at_builtin; refine Lib.wpList_append_run _ rfl _ _ _ _ rfl _ _ rfl rfl _ _ hr1 ?_)
  clear hr1 x1
  go_loopw [5, 6, 7] (fun vl ve vi wr => ∃ k : Nat, k ≤ m ∧ vi = .int .i64 k ∧ ve = .bool (decide ([] ∈ (numsOf ps).take k)) ∧ Hid (wr.ownsRow w.heap.size 38 1 vl (rs ++ ps.take k).length ((rs ++ ps.take k).map Row.v) ∧ Below w.heap.size w wr ∧ ∀ j (h : j < (numsOf ps).length), j < k → Confl (numsOf rs ++ (numsOf ps).take j) (negs (numsOf ps)[j]))) (fun _ _ vi _ => m - (intOf vi).toNat)
  case atStart => exact ⟨0, Nat.zero_le _, rfl, by simp, HJ0⟩
  case round =>
    obtain ⟨k, hk, rfl, rfl, HJ⟩ := hrel
    clear HJ0
    by_cases hlt : k < m
    · have hki : (k : Int) < (m : Int) := by omega
      have e7 : (0 : Int) ≤ (k : Int) := by omega
      have hkp : k < ps.length := by rw [HNM.out.2]; exact hlt
      have hkn : k < (numsOf ps).length := by rw [numsOf_len]; exact hkp
      obtain ⟨b, off, rfl, hc⟩ := HD.out.rows (by omega)
      have hck0 := hc k hkp
      unfold Row.v at hck0
      have HCK0 := hide hck0
      have hck := cell_later HJ.out.2.1 hck0
      clear hck0
      obtain ⟨p5, c5, hv5, hR5, hnil5⟩ := owns_rows HJ.out.1
      subst hv5
      have hxk := HX.out ps[k] (List.mem_append.2 (.inr (List.getElem_mem hkp)))
      have hIk := (HD.out.later HJ.out.2.1).inn ps[k] (List.getElem_mem hkp)
      have hlen : (rs ++ ps.take k).length = n + k := by rw [List.length_append, List.length_take, HNM.out.1]; omega
      have HFO := hide (followsOf_any V hV wr p5 ps[k].at' c5 ps[k].cap (rs ++ ps.take k) ps[k].ns hxk.1 (by rw [hlen]; omega) (fun r hr => HX.out r (by
        rcases List.mem_append.1 hr with h | h
        · exact List.mem_append.2 (.inl h)
        · exact List.mem_append.2 (.inr (List.mem_of_mem_take h)))) hxk.2 hR5 (fun r hr => by
        rcases List.mem_append.1 hr with h | h
        · exact (HC.out.later HJ.out.2.1).inn r h
        · exact (HD.out.later HJ.out.2.1).inn r (List.mem_of_mem_take h)) hIk)
      have HPK : Hid ((numsOf ps)[k] = ps[k].ns ∧ (rs ++ ps.take k).map (·.ns) = numsOf rs ++ (numsOf ps).take k) := ⟨by simp [numsOf], by unfold numsOf; rw [List.map_append, List.map_take]⟩
      have HTK : Hid ((numsOf ps).take (k + 1) = (numsOf ps).take k ++ [ps[k].ns] ∧ rs ++ ps.take (k + 1) = (rs ++ ps.take k) ++ [ps[k]]) := ⟨by rw [List.take_succ_eq_append_getElem hkn, HPK.out.1], by rw [List.take_succ_eq_append_getElem hkp, List.append_assoc]⟩
      have HKP := hide hkp
      have HKN := hide hkn
      have HLEN := hide hlen
      clear hc hR5 hxk hIk hlen
      rw [HLEN.out] at HFO ⊢
      have HNL : Hid (decide ([] ∈ (numsOf ps).take (k + 1)) = (decide ([] ∈ (numsOf ps).take k) || decide (ps[k].ns.length = 0))) := by
        unfold Hid
        rw [HTK.out.1, Bool.eq_iff_iff]
        simp only [List.mem_append, List.mem_singleton, Bool.or_eq_true, decide_eq_true_eq]
        rw [List.length_eq_zero_iff]
        exact or_congr Iff.rfl ⟨Eq.symm, Eq.symm⟩
      generalize decide ([] ∈ (numsOf ps).take k) = em at *
      have hckf := hck
      go_wp2_with fail
      refine HFO.out.mono ?_
      rintro e w3 ⟨bb, rfl, hbb, hb3⟩
      rw [HPK.out.2] at hbb
      have HBB := hide hbb
      have ho3 : w3.ownsRow w.heap.size 38 1 (.slice p5 (rs ++ ps.take k).length c5) (rs ++ ps.take k).length ((rs ++ ps.take k).map Row.v) := row_same HJ.out.1 fun g hg => hb3.block g (HJ.out.1.lt g hg).2
      have hbw3 := bthen HJ.out.2.1 hb3
      have hck3 := cell_later hb3 hck
      have hal : Below w3.heap.size w3 (w3.alloc (.cells #[.slice ps[k].at' ps[k].ns.length ps[k].cap] 38)) := bal (Below.refl _ _) _
      obtain ⟨v4, w4, hr4, ho4, hg4⟩ := rows_append (l := [ps[k]]) (p := some ⟨w3.heap.size, 0, none⟩) (c := 1) (row_same ho3 fun g hg => hal.block g (ho3.lt g hg).2) (fun _ => ⟨w3.heap.size, 0, rfl, fun i hi => by
        obtain rfl : i = 0 := by simp at hi; omega
        simp [go_sem, Row.v]⟩) (fun e => by cases e) (by rw [HLEN.out]; simp; omega) (Nat.le_trans hbw3.size hal.size) 22
      have hb4 : Below w.heap.size w3 w4 := (hal.mono hbw3.size).trans (grown_below hg4 (fun g hg => (ho3.lt g hg).1) (Nat.le_trans hbw3.size hal.size))
      have HO4 : Hid (w4.ownsRow w.heap.size 38 1 v4 (rs ++ ps.take (k + 1)).length ((rs ++ ps.take (k + 1)).map Row.v)) := by rw [HTK.out.2]; exact ho4
      have HB4 := hide (hbw3.trans hb4)
      have hck4 : w4.cell? ⟨b, off + k, none⟩ = some (.slice ps[k].at' ps[k].ns.length ps[k].cap) := cell_later HB4.out HCK0.out
      simp only [List.length_singleton] at hr4
      rw [HLEN.out] at hr4
      cases bb
      · clear hr4
        go_wp2
        go_ret
        refine ⟨false, rfl, ⟨fun e => (by cases e), fun h => ?_⟩, hbw3⟩
        have := HBB.out.2 (by rw [← HPK.out.1]; exact h.2 k HKN.out)
        cases this
      · have HNX : Hid (w4.ownsRow w.heap.size 38 1 v4 (rs ++ ps.take (k + 1)).length ((rs ++ ps.take (k + 1)).map Row.v) ∧ Below w.heap.size w w4 ∧ ∀ j (h : j < (numsOf ps).length), j < k + 1 → Confl (numsOf rs ++ (numsOf ps).take j) (negs (numsOf ps)[j])) := ⟨HO4.out, HB4.out, fun j hj hjk => by
          rcases Nat.lt_succ_iff_lt_or_eq.1 hjk with h | rfl
          · exact HJ.out.2.2 j hj h
          · rw [HPK.out.1]; exact HBB.out.1 rfl⟩
        clear hbb ho3 hbw3 hal ho4 hg4 hb4 hb3
        cases em
        · have hl0 : ((ps[k].ns.length : Int) == 0) = decide (ps[k].ns.length = 0) := by rw [Bool.eq_iff_iff]; simp
          have HL0 := hide hl0
          clear hl0
          go_wp2_with (at_builtin; refine Lib.wpList_append_run _ rfl _ _ _ _ rfl _ _ rfl rfl _ _ hr4 ?_)
          go_roundw
          case rel => exact ⟨k + 1, hlt, by go_num, by rw [HNL.out, Bool.false_or, ← HL0.out], HNX⟩
          case measure => simp [intOf]; omega
        · go_wp2_with (at_builtin; refine Lib.wpList_append_run _ rfl _ _ _ _ rfl _ _ rfl rfl _ _ hr4 ?_)
          go_roundw
          case rel => exact ⟨k + 1, hlt, by go_num, by rw [HNL.out, Bool.true_or], HNX⟩
          case measure => simp [intOf]; omega
    · obtain rfl : k = m := by omega
      have hki : ¬ (k : Int) < (k : Int) := by omega
      have HTA : Hid ((numsOf ps).take k = numsOf ps) := List.take_of_length_le (by rw [numsOf_len, HNM.out.2]; exact Nat.le_refl _)
      rw [HTA.out]
      go_wp2
      go_ret
      refine ⟨_, rfl, ?_, HJ.out.2.1⟩
      rw [decide_eq_true_iff]
      exact ⟨fun h => ⟨h, fun j hj => HJ.out.2.2 j hj (by rw [numsOf_len, HNM.out.2] at hj; exact hj)⟩, fun h => h.1⟩
theorem step_appR {P : Program} {w : World} {ops : Array Oper} {o : Oper} {a : Act} {K : Act → World → Prop} {Q : Exit → Act → World → Prop} {E : Prop} (hgd : o.guard = none) (s x : Operand) (t tn : TypeId) (ho : o.op = .call { callee := .builtin .append, args := #[s, x], argTypes := #[t, tn] }) (vs vx : Value) (hs : a.eval s = vs) (hx : a.eval x = vx) (v' : Value) (w' : World) (hr : (Builtin.append_ #[t, tn] o.type #[vs, vx]).run P w = .ok v' w') (h : K (a.put o.dst v') w') : if Region.wanted o (yielded ops a.tmps) = true then Oper.wp P o a w K Q else E := by
 rw [if_pos (by simp [Region.wanted, hgd])]
 exact Go.Lib.wp_append_run w s x t tn ho vs vx hs hx v' w' hr h
section
set_option maxHeartbeats 8000000 in
theorem checkProof_any (vars : Int) (p q : Option Addr) (cap cq : Nat) (rs ps : List Row) (hck : chkC vars (numsOf rs) = 0) (hl : rs.length ≤ 800000) (hl2 : ps.length ≤ 5864062014634) (hin : ∀ r ∈ rs ++ ps, r.ns.length ≤ maxLen) (hp : p = none → cap = 0) (hq : q = none → cq = 0) (w : World) (hC : ClAt w p rs) (hD : ClAt w q ps) :
    Calls Tryz.prog 14 #[cval vars p rs.length cap, .slice q ps.length cq] w fun e w' => e = .returned (.int .i64 (chkC vars (numsOf rs ++ numsOf ps))) ∧ Below w.heap.size w w' := by
  obtain ⟨n, hn⟩ : ∃ n, rs.length = n := ⟨_, rfl⟩
  obtain ⟨m, hm⟩ : ∃ m, ps.length = m := ⟨_, rfl⟩
  have hB1 : Below w.heap.size w (w.alloc (.cells #[.int .i64 vars, .slice p n cap] 24)) := bal (Below.refl _ _) _
  have HCC := hide (checkClauses_any vars p cap rs (by omega) (fun r hr => hin r (List.mem_append.2 (.inl hr))) _ (hC.later hB1))
  rw [hck, hn] at HCC
  have x0 : (w.alloc (.cells #[.int .i64 vars, .slice p n cap] 24)).cell? ⟨w.heap.size, 0, none⟩ = some (.int .i64 vars) := by simp [go_sem]
  have x1 : (w.alloc (.cells #[.int .i64 vars, .slice p n cap] 24)).cell? ⟨w.heap.size, 1, none⟩ = some (.slice p n cap) := by simp [go_sem]
  have hsz1 : w.heap.size < (w.alloc (.cells #[.int .i64 vars, .slice p n cap] 24)).heap.size := by simp
  have HB1 := hide hB1
  have HAP : Hid (∀ W, Below w.heap.size w W → ∃ v2 w2 v3 w3, (Builtin.append_ #[22, 22] 22 #[.slice (some ⟨W.heap.size, 0, none⟩) 0 0, .slice p n cap]).run Tryz.prog (W.alloc (.cells #[] 38)) = .ok v2 w2 ∧ (Builtin.append_ #[22, 22] 22 #[v2, .slice q m cq]).run Tryz.prog w2 = .ok v3 w3 ∧ Below W.heap.size W w2 ∧ Below W.heap.size W w3 ∧ (∃ p2 n2 c2, v2 = .slice p2 n2 c2) ∧ ∃ p3 c3, v3 = .slice p3 (n + m) c3 ∧ Calls Tryz.prog 5 #[cval vars p3 (n + m) c3] w3 fun e w' => e = .returned (.int .i64 (chkC vars (numsOf rs ++ numsOf ps))) ∧ Below w3.heap.size w3 w') := fun W hb => by
    have hal : Below W.heap.size W (W.alloc (.cells #[] 38)) := bal (Below.refl _ _) _
    have hG1 : (W.alloc (.cells #[] 38)).heap[W.heap.size]? = some (.cells #[] 38) := (MapKept.heap_alloc W _).1
    have hown0 : (W.alloc (.cells #[] 38)).ownsRow W.heap.size 38 1 (.slice (some ⟨W.heap.size, 0, none⟩) 0 0) ([] : List Row).length (([] : List Row).map Row.v) := ⟨rfl, .inr ⟨W.heap.size, 0, #[], rfl, Nat.le_refl _, hG1, Nat.le_refl _, by decide, rfl, rfl⟩⟩
    have hbA := bthen hb hal
    obtain ⟨v2, w2, hr2, ho2, hg2⟩ := rows_append hown0 (hC.rows.later hbA) hp (by simp; omega) hal.size 22
    have hb2 : Below W.heap.size W w2 := hal.trans (grown_below hg2 (fun g hg => by simp [Value.ownBlock] at hg; omega) hal.size)
    rw [List.nil_append] at ho2
    obtain ⟨p2, c2, hv2, _, _⟩ := owns_rows ho2
    obtain ⟨v3, w3, hr3, ho3, hg3⟩ := rows_append ho2 ((hD.rows.later hb).later hb2) hq (by omega) hb2.size 22
    have hb3 : Below W.heap.size W w3 := hb2.trans (grown_below hg3 (fun g hg => (ho2.lt g hg).1) hb2.size)
    obtain ⟨p3, c3, hv3, hR3, _⟩ := owns_rows ho3
    have hlen : (rs ++ ps).length = n + m := by rw [List.length_append, hn, hm]
    have hbw3 := bthen hb hb3
    rw [hn] at hr2
    rw [hm] at hr3
    refine ⟨v2, w2, v3, w3, hr2, hr3, hb2, hb3, ⟨_, _, _, hv2⟩, p3, c3, by rw [hv3, hlen], ?_⟩
    have := checkClauses_any vars p3 c3 (rs ++ ps) (by omega) hin w3 ⟨hR3, fun r hr => by
      rcases List.mem_append.1 hr with h | h
      · exact (hC.later hbw3).inn r h
      · exact (hD.later hbw3).inn r h⟩
    rw [hlen] at this
    unfold numsOf at this ⊢
    rw [List.map_append] at this
    exact this
  rw [hn, hm]
  clear hck hl hl2 hin hp hq hC hD hB1 hn hm
  generalize chkC vars (numsOf rs ++ numsOf ps) = ck at *
  unfold cval at *
  go_enter Tryz.func14, Tryz.ntmps14
  go_wp2_with fail
  generalize w.alloc (.cells #[.int .i64 vars, .slice p n cap] 24) = w1 at *
  refine HCC.out.mono ?_
  rintro e w2 ⟨rfl, hb2⟩
  have y0 := cell_later hb2 x0
  have y1 := cell_later hb2 x1
  have HB2 := hide (bthen HB1.out hb2)
  have hG2 : w.heap.size < w2.heap.size := Nat.lt_of_lt_of_le hsz1 hb2.size
  clear hb2 HCC x0 x1 HB1
  obtain ⟨v2, w3, v3, w4, hr2, hr3, hb3, hb4, ⟨p2, n2, c2, rfl⟩, p3, c3, rfl, hcall⟩ := HAP.out w2.drew HB2.out.drew
  replace hr2 : (Builtin.append_ #[22, 22] 22 #[.slice (some ⟨w2.heap.size, 0, none⟩) 0 0, .slice p n cap]).run Tryz.prog (w2.alloc (.cells #[] 38)).drew = .ok (.slice p2 n2 c2) w3 := hr2
  generalize hGe : w.heap.size = G at *
  have HGE := hide hGe
  clear hGe
  have u0 : w3.cell? ⟨G, 0, none⟩ = some (.int .i64 vars) := cell_later hb3 y0
  have u1 : w3.cell? ⟨G, 1, none⟩ = some (.slice p n cap) := cell_later hb3 y1
  have t0 : w4.cell? ⟨G, 0, none⟩ = some (.int .i64 vars) := cell_later hb4 y0
  have t1 : w4.cell? ⟨G, 1, none⟩ = some (.slice p n cap) := cell_later hb4 y1
  have HCL := hide hcall
  have hal : Below w2.drew.heap.size w2.drew (w2.drew.alloc (.cells #[] 38)) := bal (Below.refl _ _) _
  have a0 := cell_later hal (show w2.drew.cell? ⟨G, 0, none⟩ = _ from y0)
  have a1 := cell_later hal (show w2.drew.cell? ⟨G, 1, none⟩ = _ from y1)
  go_wp2_with fail
  go_region_held3 (fun w' => w'.cell? ⟨G, 0, none⟩ = some (.int .i64 vars) ∧ w'.cell? ⟨G, 1, none⟩ = some (.slice p n cap)) (first | exact ⟨y0, y1⟩ | exact ⟨a0, a1⟩ | exact ⟨u0, u1⟩ | exact ⟨t0, t1⟩ | exact ⟨cell_later hb5 t0, cell_later hb5 t1⟩) ((first | (go_at_call 5; refine HCL.out.mono ?_; rintro e w5 ⟨rfl, hb5⟩) | (refine step_appR rfl _ _ _ _ rfl _ _ rfl rfl _ _ hr2 ?_) | (refine step_appR rfl _ _ _ _ rfl _ _ rfl rfl _ _ hr3 ?_)))
  have HBZ : Hid (Below G w w5) := (HB2.out.drew.trans (hb4.mono (Nat.le_of_lt hG2))).trans (hb5.mono (Nat.le_trans (Nat.le_of_lt hG2) hb4.size))
  go_wp2
  go_ret
  exact ⟨rfl, by rw [HGE.out]; exact HBZ.out⟩
end
end Go.Proofs.YtkinmangilbeeaaGreatDoor.Sr
