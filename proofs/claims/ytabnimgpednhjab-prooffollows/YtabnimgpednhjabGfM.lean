/- Gates: the plain text: a graph is checked. -/
import Derived.Test.YtabnimgpednhjabGd
import Derived.Deep.DeepAppendWide
import Derived.Lib.SliceRun
namespace Go.Proofs.Ytabnimgpednhjab
open Go.RowKit Go.Maps Go.WideMaps
set_option maxRecDepth 100000

theorem andAt_ge (ps : List (Int × Int)) (k : Nat) (x : Int × Int) : -1 ≤ andAt ps k x ∧ andAt ps k x ≤ k := by
  unfold andAt
  cases h : (ps.take k).findIdx? (· == x) with
  | none => simp
  | some i =>
    rw [List.findIdx?_eq_some_iff_getElem] at h
    obtain ⟨h1, _⟩ := h
    rw [List.length_take] at h1
    simp
    omega

set_option maxRecDepth 100000 in
set_option maxHeartbeats 4000000 in
theorem checkGraph_any (ins : Int) (p : Option Addr) (cap : Nat) (ps : List (Int × Int)) (hwf : WfP ps) (hl : ps.length ≤ 8796093022208) (w : World) (hP : PairsAt w p ps) :
    Calls Try.prog 10 #[gval ins p ps.length cap] w fun e w' => e = .returned (.int .i64 (chkE ins ps)) ∧ Below w.heap.size w w' := by
  have HWF := hide hwf
  have hB0 : Below w.heap.size w (w.alloc (.cells #[.int .i64 ins, .slice p ps.length cap] 24)) := bal (Below.refl _ _) _
  clear hwf
  cases hr : btw ins 0 1000
  · have HE := hide (chk_range (ps := ps) hr)
    generalize chkE ins ps = R at *
    go_enter Try.func10, Try.ntmps10
    go_wp2_with (go_at_call 34; refine (between_any _ _ _ _).mono ?_; rintro e w' ⟨rfl, rfl⟩)
    go_ret
    exact ⟨ret_int HE.out.symm, hB0⟩
  by_cases hm : 1000000 < ps.length
  · have HE := hide (chk_many hr hm)
    have hm2 : (1000000 : Int) < (ps.length : Int) := by omega
    generalize chkE ins ps = R at *
    go_enter Try.func10, Try.ntmps10
    go_wp2_with (go_at_call 34; refine (between_any _ _ _ _).mono ?_; rintro e w' ⟨rfl, rfl⟩)
    go_ret
    exact ⟨ret_int HE.out.symm, hB0⟩
  have hm1 : ps.length ≤ 1000000 := by omega
  have hr2 := btw_true.1 hr
  have HCS := hide (chk_state hr hm1)
  have HCT := hide (chk_twice hr hm1)
  have HCO := hide (chk_ok hr hm1)
  have HRR := hide hr
  go_enter Try.func10, Try.ntmps10
  go_wp2_with (go_at_call 34; refine (between_any _ _ _ _).mono ?_; rintro e w' ⟨rfl, rfl⟩; rw [HRR.out])
  go_loopw [3] (fun i wr => ∃ k : Nat, k ≤ ps.length ∧ i = .int .i64 k ∧ Hid (stN ins ps k = true) ∧ Below w.heap.size w wr ∧ wr.cell? ⟨w.heap.size, 0, none⟩ = some (.int .i64 ins) ∧ wr.cell? ⟨w.heap.size, 1, none⟩ = some (.slice p ps.length cap)) (fun i _ => ps.length - (intOf i).toNat)
  case atStart => exact ⟨0, Nat.zero_le _, rfl, rfl, hB0, by simp [go_sem], by simp [go_sem]⟩
  case round =>
    obtain ⟨k, hk, rfl, hst, hbw, q0, q1⟩ := hrel
    by_cases hlt : k < ps.length
    · obtain ⟨b1, o1, rfl, hc1⟩ := (hP.later hbw) (by omega)
      obtain ⟨c0, c1⟩ := hc1 k hlt
      have hki : (k : Int) < (ps.length : Int) := by omega
      have HS := hide (stN_succ (ins := ins) hlt)
      have hwk := HWF.out k hlt
      unfold Wf at hwk
      clear hc1
      generalize ps[k] = pr at *
      obtain ⟨x, y⟩ := pr
      simp only at *
      have HBad : Hid (standB x y (1 + ins + k) = false → chkE ins ps = 4) := by
        intro hs
        refine HCS.out ?_
        rw [Bool.eq_false_iff]
        intro hh
        have := stN_down (k := k + 1) hh (by omega)
        rw [HS.out, hs] at this
        simp at this
      by_cases h1 : y ≤ x
      · have HE := hide (HBad.out (by simp [standB]; omega))
        clear HBad HS HCS HCT HCO
        go_wp2
        go_quiet (fail)
        go_wp2
        go_ret
        exact ⟨ret_int HE.out.symm, bdn hbw _⟩
      by_cases h2 : x < 2
      · have HE := hide (HBad.out (by simp [standB]; omega))
        clear HBad HS HCS HCT HCO
        go_wp2
        go_quiet (fail)
        go_wp2
        go_ret
        exact ⟨ret_int HE.out.symm, bdn hbw _⟩
      by_cases h3 : 2 * (1 + ins + k) ≤ y
      · have HE := hide (HBad.out (by simp [standB]; omega))
        clear HBad HS HCS HCT HCO
        go_wp2
        go_quiet (fail)
        go_wp2
        go_ret
        exact ⟨ret_int HE.out.symm, bdn hbw _⟩
      by_cases h4 : x / 2 = y / 2
      · have HE := hide (HBad.out (by simp [standB]; omega))
        clear HBad HS HCS HCT HCO
        go_wp2
        go_quiet (fail)
        go_wp2
        go_ret
        exact ⟨ret_int HE.out.symm, bdn hbw _⟩
      have HG : Hid (stN ins ps (k + 1) = true) := by
        rw [HS.out, hst.out]
        simp [standB, Hid]
        omega
      have h4' : (x / 2 == y / 2) = false := by simpa using h4
      clear HBad HS HCS HCT HCO
      go_wp2
      go_quiet (fail)
      go_wp2
      go_roundw
      case rel => exact ⟨k + 1, by omega, by go_num, HG, bdn hbw _, q0, q1⟩
      case measure => simp [intOf]; omega
    · obtain rfl : k = ps.length := by omega
      have HCT2 := hide (HCT.out hst.out)
      have HCO2 := hide (HCO.out hst.out)
      have HB1 := hide hbw
      clear HCS HCT HCO hst
      go_wp2
      go_loopw [6] (fun i wr => ∃ k : Nat, k ≤ ps.length ∧ i = .int .i64 k ∧ Hid (dupN ps k = false) ∧ Below w.heap.size w wr ∧ wr.cell? ⟨w.heap.size, 0, none⟩ = some (.int .i64 ins) ∧ wr.cell? ⟨w.heap.size, 1, none⟩ = some (.slice p ps.length cap)) (fun i _ => ps.length - (intOf i).toNat)
      case atStart => exact ⟨0, Nat.zero_le _, rfl, rfl, hbw, q0, q1⟩
      case round =>
        clear hbw q0 q1
        obtain ⟨k, hk, rfl, hst, hbw, q0, q1⟩ := hrel
        by_cases hlt : k < ps.length
        · have hcall := fun (w1 : World) (hb : Below w.heap.size w w1) => andAt_any ins p cap ps (by omega) HWF.out k (by omega) ps[k].1 ps[k].2 (HWF.out k hlt).1 (HWF.out k hlt).2 w1 (hP.later hb)
          obtain ⟨b1, o1, rfl, hc1⟩ := (hP.later hbw) (by omega)
          obtain ⟨c0, c1⟩ := hc1 k hlt
          have hki : (k : Int) < (ps.length : Int) := by omega
          have HS := hide (dupN_succ hlt)
          have hge := andAt_ge ps k (ps[k].1, ps[k].2)
          have HCL := hide hcall
          have HB2 := hide hbw
          clear hc1 hcall
          generalize ps[k] = pr at *
          obtain ⟨x, y⟩ := pr
          simp only at *
          generalize andAt ps k (x, y) = at1 at *
          by_cases h0 : 0 ≤ at1
          · have HE : Hid (chkE ins ps = 6) := by
              refine HCT2.out (dupN_up (k := k + 1) ?_ (by omega))
              rw [HS.out]; simp [h0]
            clear HCT2 HCO2 HS hst
            go_wp2
            go_region_held3 (fun w' => w'.cell? ⟨w.heap.size, 0, none⟩ = some (.int .i64 ins) ∧ w'.cell? ⟨w.heap.size, 1, none⟩ = some (.slice (some ⟨b1, o1, none⟩) ps.length cap) ∧ w'.cell? ⟨b1, o1 + k * 2, none⟩ = some (.int .i64 x) ∧ w'.cell? ⟨b1, o1 + k * 2 + 1, none⟩ = some (.int .i64 y))
              (first | exact ⟨q0, q1, c0, c1⟩ | exact ⟨cell_later hb1 q0, cell_later hb1 q1, cell_later hb1 c0, cell_later hb1 c1⟩ | go_keep)
              ((go_at_call 35; refine (HCL.out _ HB2.out.drew).mono ?_; rintro e w1 ⟨rfl, hb1⟩))
            have HB3 := hide (bthen HB2.out.drew hb1)
            clear hb1
            go_wp2
            go_ret
            exact ⟨ret_int HE.out.symm, HB3.out⟩
          · have HE : Hid (dupN ps (k + 1) = false) := by
              rw [HS.out, hst.out]; simp [h0, Hid]
            clear HCT2 HCO2 HS hst
            go_wp2
            go_region_held3 (fun w' => w'.cell? ⟨w.heap.size, 0, none⟩ = some (.int .i64 ins) ∧ w'.cell? ⟨w.heap.size, 1, none⟩ = some (.slice (some ⟨b1, o1, none⟩) ps.length cap) ∧ w'.cell? ⟨b1, o1 + k * 2, none⟩ = some (.int .i64 x) ∧ w'.cell? ⟨b1, o1 + k * 2 + 1, none⟩ = some (.int .i64 y))
              (first | exact ⟨q0, q1, c0, c1⟩ | exact ⟨cell_later hb1 q0, cell_later hb1 q1, cell_later hb1 c0, cell_later hb1 c1⟩ | go_keep)
              ((go_at_call 35; refine (HCL.out _ HB2.out.drew).mono ?_; rintro e w1 ⟨rfl, hb1⟩))
            have HB3 := hide (bthen HB2.out.drew hb1)
            have q0' := cell_later hb1 (show wr.drew.cell? _ = _ from q0)
            have q1' := cell_later hb1 (show wr.drew.cell? _ = _ from q1)
            clear hb1
            go_wp2
            go_roundw
            case rel => exact ⟨k + 1, by omega, by go_num, HE, HB3.out, q0', q1'⟩
            case measure => simp [intOf]; omega
        · obtain rfl : k = ps.length := by omega
          have HE := hide (HCO2.out hst.out)
          go_wp2
          go_ret
          exact ⟨ret_int HE.out.symm, hbw⟩

end Go.Proofs.Ytabnimgpednhjab

namespace Go.Proofs.Ytabnimgpednhjab
open Go.RowKit Go.Maps Go.WideMaps
set_option maxRecDepth 100000

theorem info55 : (Try.prog.info? 69).map (fun i => (i.zero, i.size, i.bytes)) = some (some (.agg #[.int .i64 0, .int .i64 0]), 2, 16) := by kernel_rfl
theorem zero3 (w : World) : (zeroValue 3).run Try.prog w = .ok (.int .i64 0) w := by kernel_rfl
theorem run_makeMapS (n : Nat) (w : World) : (Instr.makeMap 65 (some (.int .i64 (n : Int)))).run Try.prog w = .ok (.map (some w.heap.size)) (w.alloc (.map #[] 0)) := by
  simp [Instr.makeMap]; rfl

/-- The cells of pairs. -/
def flat (ps : List (Int × Int)) : List Value := ps.flatMap (fun p => [.int .i64 p.1, .int .i64 p.2])
theorem flat_len (ps : List (Int × Int)) : (flat ps).length = ps.length * 2 := by
  unfold flat
  induction ps with
  | nil => rfl
  | cons a l ih => simp [List.flatMap_cons, ih]; omega
theorem flat_snoc (ps : List (Int × Int)) (a b : Int) : flat (ps ++ [(a, b)]) = flat ps ++ [.int .i64 a, .int .i64 b] := by simp [flat, List.flatMap_append]
theorem flat_get (ps : List (Int × Int)) (i : Nat) (h : i < ps.length) : (flat ps)[i * 2]? = some (.int .i64 ps[i].1) ∧ (flat ps)[i * 2 + 1]? = some (.int .i64 ps[i].2) := by
  induction ps generalizing i with
  | nil => simp at h
  | cons a l ih =>
    have e : flat (a :: l) = .int .i64 a.1 :: .int .i64 a.2 :: flat l := by simp [flat, List.flatMap_cons]
    rw [e]
    cases i with
    | zero => simp
    | succ i =>
      have := ih i (by simpa using h)
      rw [show (i + 1) * 2 = i * 2 + 1 + 1 from by omega]
      simpa using this
theorem flat_one (ps : List (Int × Int)) (j : Nat) (u : Value) (h : (flat ps)[j]? = some u) : ∃ i, ∃ (hi : i < ps.length), (j = i * 2 ∧ u = .int .i64 ps[i].1) ∨ (j = i * 2 + 1 ∧ u = .int .i64 ps[i].2) := by
  have hj : j < ps.length * 2 := by rw [← flat_len]; exact (List.getElem?_eq_some_iff.1 h).1
  have hi : j / 2 < ps.length := by omega
  have hg := flat_get ps (j / 2) hi
  refine ⟨j / 2, hi, ?_⟩
  rcases Nat.mod_two_eq_zero_or_one j with h0 | h0
  · left
    have e : j / 2 * 2 = j := by omega
    rw [e, h] at hg
    exact ⟨e.symm, by simpa using hg.1⟩
  · right
    have e : j / 2 * 2 + 1 = j := by omega
    rw [e, h] at hg
    exact ⟨e.symm, by simpa using hg.2⟩

theorem flat_cell (ps : List (Int × Int)) : ∀ u ∈ flat ps, u.oneCell' = true := by
  intro u hu
  obtain ⟨j, hj⟩ := List.mem_iff_getElem?.1 hu
  obtain ⟨i, hi, h | h⟩ := flat_one ps j u hj <;> (rw [h.2]; rfl)

theorem pairs_cells {w : World} {ps : List (Int × Int)} {ad : Addr} (h : PairsAt w (some ad) ps) : ∀ j u, (flat ps)[j]? = some u → w.cell? (ad.add j) = some u := by
  intro j u hj
  obtain ⟨i, hi, h1⟩ := flat_one ps j u hj
  obtain ⟨b, off, e, hc⟩ := h (by omega)
  cases e
  rw [Addr.add_lit]
  rcases h1 with ⟨rfl, rfl⟩ | ⟨rfl, rfl⟩
  · exact (hc i hi).1
  · exact (hc i hi).2

theorem owns_pairs {w : World} {base : Nat} {v : Value} {ps : List (Int × Int)} (h : w.ownsRow base 69 2 v ps.length (flat ps)) : ∃ p cap, v = .slice p ps.length cap ∧ PairsAt w p ps := by
  have h' := h
  obtain ⟨h1, h2⟩ := h
  rcases h2 with ⟨rfl, h0⟩ | ⟨g, cap, cur, rfl, hg, hh, hn, hm, hs, ht⟩
  · exact ⟨none, 0, by rw [h0], fun h => by omega⟩
  · refine ⟨_, cap, rfl, fun _ => ⟨g, 0, rfl, fun i hi => ?_⟩⟩
    rw [Nat.zero_add, h'.cellAt (i * 2) (by omega), h'.cellAt (i * 2 + 1) (by omega)]
    exact flat_get ps i hi

theorem owns_below {w w1 : World} {base e size n : Nat} {v : Value} {xs : List Value} (h : w.ownsRow base e size v n xs) (hb : Below w.heap.size w w1) : w1.ownsRow base e size v n xs := by
  obtain ⟨h1, h2⟩ := h
  refine ⟨h1, ?_⟩
  rcases h2 with h2 | ⟨g, cap, cur, rfl, hg, hh, hr⟩
  · exact .inl h2
  · exact .inr ⟨g, cap, cur, rfl, hg, by rw [hb.block g (Array.getElem?_eq_some_iff.1 hh).1]; exact hh, hr⟩

theorem map_below {w w1 : World} {P : Program} {k : TypeId} {R : Value → Option (DataW Unit × List MemPlace)} {b n : Nat} {D : DataW Unit} (h : w.ownsMap P k R b n D) (hb : Below w.heap.size w w1) : w1.ownsMap P k R b n D := by
  have hlt := h.lt
  obtain ⟨es, clock, hh, hr⟩ := h
  exact ⟨es, clock, by rw [hb.block b hlt]; exact hh, hr⟩

set_option maxHeartbeats 1000000 in
theorem clone_any (p : Option Addr) (cap : Nat) (ps : List (Int × Int)) (hl : ps.length ≤ 1000001) (w : World) (hP : PairsAt w p ps) :
    Calls Try.prog 80 #[.slice p ps.length cap] w fun e w' => ∃ v, e = .returned v ∧ w'.ownsRow w.heap.size 69 2 v ps.length (flat ps) ∧ Below w.heap.size w w' := by
  obtain ⟨i0, hi, hz0, hz1, hz2⟩ := info_parts info55
  have q22 : ∀ (w : World) (a : Option Addr) (n c n' c' : Nat), (binOp .eql 22 (.slice a n c) (.slice none n' c')).run Try.prog w = .ok (.bool a.isNone) w := fun w a n c n' c' => Lib.run_eql_slice_nil w _ _ a n c n' c' Try.underlying22
  cases p with
  | none =>
    have h0 : ps = [] := by
      cases ps with
      | nil => rfl
      | cons a t => obtain ⟨b, off, h, _⟩ := hP (by simp); cases h
    subst h0
    go_enter Try.func80, Try.ntmps80
    go_wp2
    go_ret
    exact ⟨_, rfl, World.ownsRow_nil _ _ _ _, Below.refl _ _⟩
  | some ad =>
    have HC := hide (pairs_cells hP)
    clear hP
    go_enter Try.func80, Try.ntmps80
    go_wp2_with (at_builtin; refine wpList_append_own_wide _ rfl _ _ 22 rfl w.heap.size 69 i0 (.agg #[.int .i64 0, .int .i64 0]) 2 16 Try.underlying22 hi hz0 hz1 hz2 rfl (by decide) _ _ _ rfl (World.ownsRow_made w #[] 0 (Nat.le_refl _) (Nat.zero_le _) rfl) ad ps.length cap (flat ps) rfl ?qc1 ?qc2 ?qc3 ?qc4 ?qc5 ?qc6 ?_)
    case qc1 => exact flat_len ps
    case qc2 => intro j u hj; exact Lib.cell?_alloc_some _ (HC.out j u hj)
    case qc3 => exact flat_cell ps
    case qc4 => unfold maxLen; omega
    case qc5 => omega
    case qc6 => simp
    intro v' w1 hown hgrow _
    go_wp2
    go_ret
    exact ⟨v', rfl, by simpa using hown, ((Below.refl _ w).alloc (Nat.le_refl _) _).grown hgrow (by simp) (by intro k hk; simp [Value.ownBlock] at hk; omega)⟩

end Go.Proofs.Ytabnimgpednhjab
