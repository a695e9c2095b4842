/- Gates: the plain text: And of any two, what nodes are; what must be in any case. -/
import Derived.Test.YtabnimgpednhjabGn
namespace Go.Proofs.Ytabnimgpednhjab
open Go.RowKit Go.Maps Go.WideMaps
set_option maxRecDepth 100000

set_option maxRecDepth 100000 in
set_option maxHeartbeats 4000000 in
theorem andOf_eq (ins : Int) (p : Option Addr) (cap : Nat) (ps : List (Int × Int)) (x : Int) (hx : 0 ≤ x) (hy : x ≤ 10000000) (w : World) (hP : PairsAt w p ps) :
    Calls Try.prog 12 #[gval ins p ps.length cap, .int .i64 x, .int .i64 x] w fun e w' => AndIs w w' e p ps ins (refPs ps x x) (refLit ins ps x x) := by
  have HEND : Hid (∀ n, AndIs w ((w.alloc (.cells #[.int .i64 ins, .slice p ps.length cap] 24)).alloc (.cells #[.int .i64 ins, .slice p ps.length cap] 24)) (.returned (.tuple #[gval ins p ps.length cap, .int .i64 n])) p ps ins ps n) := fun n =>
    ⟨p, cap, rfl, hP.later (bal (bal (Below.refl _ _) _) _), bal (bal (Below.refl _ _) _)  _, Or.inl ⟨rfl, rfl⟩⟩
  clear hP
  by_cases hz : x = 0
  · have HE := hide (ref_no (ins := ins) (ps := ps) (Or.inl hz : x = 0 ∨ (x / 2 = x / 2 ∧ x ≠ x)))
    have hz' : (x == 0) = true := by simpa using hz
    clear hz
    go_enter Try.func12, Try.ntmps12
    go_wp2
    rw [HE.out.1, HE.out.2]
    exact bodyPost_ret (v := .tuple #[gval ins p ps.length cap, .int .i64 0]) (by simp [results, Try.results12, go_sem]) rfl (HEND.out 0)
  have hz' : (x == 0) = false := by simpa using hz
  have HE := hide (ref_one (ins := ins) (ps := ps) (fun h => h.elim hz (fun h => h.2 rfl) : ¬ (x = 0 ∨ (x / 2 = x / 2 ∧ x ≠ x))) (Or.inr rfl : x = 1 ∨ x = x))
  clear hz
  cases ho' : (x == 1)
  all_goals
    go_enter Try.func12, Try.ntmps12
    go_wp2
    rw [HE.out.1, HE.out.2]
    exact bodyPost_ret (v := .tuple #[gval ins p ps.length cap, .int .i64 x]) (by simp [results, Try.results12, go_sem]) rfl (HEND.out x)

theorem andOf_any (ins : Int) (p : Option Addr) (cap : Nat) (hpn : p = none → cap = 0) (ps : List (Int × Int)) (hwf : WfP ps) (hl : ps.length ≤ 1000000) (h0 : 0 ≤ ins) (h1 : ins ≤ 1000) (a b : Int) (ha : 0 ≤ a) (ha2 : a ≤ 10000000) (hb : 0 ≤ b) (hb2 : b ≤ 10000000)
    (w : World) (hP : PairsAt w p ps) :
    Calls Try.prog 12 #[gval ins p ps.length cap, .int .i64 a, .int .i64 b] w fun e w' => AndIs w w' e p ps ins (refPs ps (min a b) (max a b)) (refLit ins ps (min a b) (max a b)) := by
  rcases Int.lt_trichotomy a b with h | h | h
  · rw [Int.min_eq_left (by omega), Int.max_eq_right (by omega)]
    exact andOf_lt ins p cap hpn ps hwf hl h0 h1 a b a b h ha hb2 (Or.inl ⟨rfl, rfl⟩) w hP
  · subst h
    rw [Int.min_eq_left (by omega), Int.max_eq_right (by omega)]
    exact andOf_eq ins p cap ps a ha ha2 w hP
  · rw [Int.min_eq_right (by omega), Int.max_eq_left (by omega)]
    exact andOf_lt ins p cap hpn ps hwf hl h0 h1 b a a b h hb ha2 (Or.inr ⟨rfl, rfl⟩) w hP

theorem turn_iff {x y : Int} : x = turn y ↔ x / 2 = y / 2 ∧ x ≠ y := by
  unfold turn odd
  by_cases h : y % 2 = 1
  · have : (y % 2 == 1) = true := by simpa using h
    rw [this, if_pos rfl]; omega
  · have : (y % 2 == 1) = false := by simpa using h
    rw [this, if_neg (by decide)]; omega

/-- The two Ands are one. -/
theorem and_ref (ins : Int) (ps : List (Int × Int)) (x y : Int) (hl : ps.length ≤ 1000000) :
    (makOk ps x y = true → makPs ps x y = refPs ps x y ∧ makLit ins ps x y = refLit ins ps x y ∧ (refPs ps x y).length ≤ 1000000) ∧ (makOk ps x y = false → 1000000 < (refPs ps x y).length) := by
  by_cases h1 : x = 0 ∨ x = turn y
  · have h1' : x = 0 ∨ (x / 2 = y / 2 ∧ x ≠ y) := h1.imp id (fun h => turn_iff.1 h)
    obtain ⟨e1, e2, e3⟩ := mak_no (ins := ins) (ps := ps) h1
    obtain ⟨f1, f2⟩ := ref_no (ins := ins) (ps := ps) h1'
    rw [e1, e2, e3, f1, f2]
    exact ⟨fun _ => ⟨rfl, rfl, hl⟩, fun h => by cases h⟩
  have h1' : ¬ (x = 0 ∨ (x / 2 = y / 2 ∧ x ≠ y)) := fun h => h1 (h.imp id (fun h => turn_iff.2 h))
  by_cases h2 : x = 1 ∨ x = y
  · obtain ⟨e1, e2, e3⟩ := mak_one (ins := ins) (ps := ps) h1 h2
    obtain ⟨f1, f2⟩ := ref_one (ins := ins) (ps := ps) h1' h2
    rw [e1, e2, e3, f1, f2]
    exact ⟨fun _ => ⟨rfl, rfl, hl⟩, fun h => by cases h⟩
  obtain ⟨e1, e2, e3⟩ := mak_add (ins := ins) (ps := ps) h1 h2
  rw [e1, e2, e3]
  by_cases h3 : 0 ≤ andAt ps ps.length (x, y)
  · obtain ⟨f1, f2⟩ := ref_at (ins := ins) (ps := ps) h1' h2 h3
    rw [f1, f2]
    refine ⟨fun _ => ⟨by unfold addPs; rw [if_pos h3], by unfold addLit; rw [if_pos h3], hl⟩, fun h => ?_⟩
    simp [addOk, h3] at h
  · obtain ⟨f1, f2⟩ := ref_new (ins := ins) (ps := ps) h1' h2 h3
    rw [f1, f2, List.length_append]
    refine ⟨fun h => ?_, fun h => ?_⟩
    · have h4 : ps.length < 1000000 := by simpa [addOk, h3] using h
      exact ⟨by unfold addPs; rw [if_neg h3, if_neg (by omega)], by unfold addLit; rw [if_neg h3, if_neg (by omega)], by simp; omega⟩
    · have h4 : ¬ ps.length < 1000000 := by simpa [addOk, h3] using h
      simp; omega

set_option maxRecDepth 100000 in
set_option maxHeartbeats 4000000 in
theorem nodesOf_any (p : Option Addr) (cap : Nat) (ps : List (Int × Int)) (hl : ps.length ≤ 1000001) (q : Option Addr) (qc : Nat) (bs : List Bool) (hm : bs.length ≤ 1000) (hqn : q = none → qc = 0) (hst : stN bs.length ps ps.length = true) (w : World) (hP : PairsAt w p ps) (hB : BoolsAt w q bs) :
    Calls Try.prog 18 #[gval (bs.length : Int) p ps.length cap, .slice q bs.length qc] w fun e w' => ∃ pv cv, e = .returned (.slice pv (nodesV bs ps ps.length).length cv) ∧ BoolsAt w' pv (nodesV bs ps ps.length) ∧ Below w.heap.size w w' := by
  have hB0 : Below w.heap.size w (w.alloc (.cells #[.int .i64 bs.length, .slice p ps.length cap] 24)) := bal (Below.refl _ _) _
  have HB0 := hide hB0
  have HP := hide hP
  have HB := hide hB
  have HST := hide hst
  have HQN := hide hqn
  have HO0 : Hid (((w.alloc (.cells #[.int .i64 bs.length, .slice p ps.length cap] 24)).alloc (.cells #[.bool false] 4)).ownsRow (w.heap.size + 1) 4 1 (.slice (some ⟨w.heap.size + 1, 0, none⟩) 1 1) ([false] : List Bool).length (([false] : List Bool).map Value.bool)) := by
    have := World.ownsRow_lit (base := w.heap.size + 1) (e := 4) (size := 1) (w.alloc (.cells #[.int .i64 bs.length, .slice p ps.length cap] 24)) #[.bool false] 1 (by simp) (by unfold maxLen; omega) rfl
    unfold Hid
    simpa using this
  clear hP hB hst hqn hB0
  go_enter Try.func18, Try.ntmps18
  go_wp2_with (at_builtin; refine wpList_append_bools rfl _ _ rfl (w.heap.size + 1) _ [false] bs rfl HO0.out _ _ rfl (HB.out.later (bal HB0.out _)) HQN.out (by simp; omega) (by simp) ?_)
  intro v2 w2 hown2 hg2
  have hb2 : Below w.heap.size w w2 := (bal HB0.out _).grown hg2 (by simp; omega) (by intro k hk; simp [Value.ownBlock] at hk; omega)
  have hz2 : w.heap.size + 1 ≤ w2.heap.size := by have := hg2.size; simp at this; omega
  have q0 : w2.cell? ⟨w.heap.size, 1, none⟩ = some (.slice p ps.length cap) := hg2.cell (by simp [go_sem]) (by simp [Value.ownBlock])
  clear hg2
  go_wp2
  go_loopw [5, 6] (fun v i wr => ∃ k : Nat, k ≤ ps.length ∧ i = .int .i64 k ∧ wr.ownsRow (w.heap.size + 1) 4 1 v (nodesV bs ps k).length ((nodesV bs ps k).map Value.bool) ∧ Below w.heap.size w wr ∧ w.heap.size + 1 ≤ wr.heap.size ∧ wr.cell? ⟨w.heap.size, 1, none⟩ = some (.slice p ps.length cap)) (fun _ i _ => ps.length - (intOf i).toNat)
  case atStart => exact ⟨0, Nat.zero_le _, rfl, hown2, hb2, hz2, q0⟩
  case round =>
    clear hown2 hb2 q0 hz2
    obtain ⟨k, hk, rfl, hown, hbw, hszw, q0⟩ := hrel
    have hlen := nodesV_len bs ps k
    obtain ⟨pv, cv, rfl, hbv⟩ := owns_bools hown
    by_cases hlt : k < ps.length
    · obtain ⟨b1, o1, rfl, hc1⟩ := (HP.out.later hbw) (by omega)
      obtain ⟨c0, c1⟩ := hc1 k hlt
      have hki : (k : Int) < (ps.length : Int) := by omega
      have hsd : standB ps[k].1 ps[k].2 (1 + bs.length + k) = true := by
        have := stN_down (k := k + 1) HST.out (by omega)
        rw [stN_succ hlt, Bool.and_eq_true] at this
        exact this.2
      have hbd := stand_bd hsd
      have HS := hide (nodesV_succ (bs := bs) hlt)
      clear hc1 hsd
      generalize ps[k] = pr at *
      obtain ⟨x, y⟩ := pr
      simp only at *
      obtain ⟨x0, x1, y0, y1⟩ := hbd
      have HVB := hide hbv
      have HOW := hide hown
      have HLN := hide hlen
      generalize hnv : nodesV bs ps k = vs at *
      clear hnv hbv hown hlen
      have HX := hide (litOf_any vs pv cv x x0 (by rw [HLN.out]; omega) (by rw [HLN.out]; omega) wr HVB.out)
      have HY := hide (litOf_any vs pv cv y y0 (by rw [HLN.out]; omega) (by rw [HLN.out]; omega) wr HVB.out)
      have HBW := hide hbw
      have HEND : Hid (∀ z w3, (wr.alloc (.cells #[.bool z] 4)).grownBy w3 (Value.ownBlock (.slice pv vs.length cv)) → Below w.heap.size w w3 ∧ w.heap.size + 1 ≤ w3.heap.size ∧ w3.cell? ⟨w.heap.size, 1, none⟩ = some (.slice (some ⟨b1, o1, none⟩) ps.length cap)) := fun z w3 hg =>
        ⟨(bal HBW.out _).grown hg (by simp; omega) (fun j hj => by have := (HOW.out.lt j hj).1; omega), by have := hg.size; simp at this; omega, hg.cell (past1 q0 _) (fun e => by have := (HOW.out.lt _ e.symm).1; simp only at this; omega)⟩
      clear hbw
      cases hlx : litV vs x
      · rw [hlx] at HS HX
        clear hlx HY
        go_wp2_with fail
        refine HX.out.mono ?_
        rintro e w' ⟨rfl, rfl⟩
        go_wp2_with (at_builtin; refine wpList_append_bools rfl _ _ rfl (w.heap.size + 1) _ vs [false] rfl (HOW.out.alloc _) _ _ rfl (bools_one false) (fun h => by cases h) (by simp; rw [HLN.out]; omega) (by simp; omega) ?_)
        intro v' w3 hown3 hg3
        have HB3 := hide (HEND.out _ _ hg3)
        have hown4 : w3.ownsRow (w.heap.size + 1) 4 1 v' (nodesV bs ps (k + 1)).length ((nodesV bs ps (k + 1)).map Value.bool) := by rw [HS.out]; simpa using hown3
        clear hg3 hown3
        go_wp2
        go_roundw
        case rel => exact ⟨k + 1, by omega, by go_num, hown4, HB3.out.1, HB3.out.2.1, HB3.out.2.2⟩
        case measure => simp [intOf]; omega
      · rw [hlx] at HS HX
        clear hlx
        generalize litV vs y = ly at *
        go_wp2_with fail
        refine HX.out.mono ?_
        rintro e w' ⟨rfl, rfl⟩
        go_wp2_with fail
        refine HY.out.mono ?_
        rintro e w'' ⟨rfl, rfl⟩
        go_wp2_with (at_builtin; refine wpList_append_bools rfl _ _ rfl (w.heap.size + 1) _ vs [ly] rfl (HOW.out.alloc _) _ _ rfl (bools_one ly) (fun h => by cases h) (by simp; rw [HLN.out]; omega) (by simp; omega) ?_)
        intro v' w3 hown3 hg3
        have HB3 := hide (HEND.out _ _ hg3)
        have hown4 : w3.ownsRow (w.heap.size + 1) 4 1 v' (nodesV bs ps (k + 1)).length ((nodesV bs ps (k + 1)).map Value.bool) := by rw [HS.out]; simpa using hown3
        clear hg3 hown3
        go_wp2
        go_roundw
        case rel => exact ⟨k + 1, by omega, by go_num, hown4, HB3.out.1, HB3.out.2.1, HB3.out.2.2⟩
        case measure => simp [intOf]; omega
    · obtain rfl : k = ps.length := by omega
      go_wp2
      go_ret
      exact ⟨pv, cv, rfl, hbv, hbw⟩

theorem bg_e : andE 2 [] 4 2 = 0 := by decide
theorem bg_l : outLit 2 [] 4 2 0 = 6 := by decide
theorem bg_i : outIns 2 0 = 2 := by decide
theorem bg_p : outPs [] 4 2 0 = [(2, 4)] := by decide
theorem bg_c : chkE 2 [(2, 4)] = 0 := by decide
theorem bg_v : evE 2 [(2, 4)] [true, true] [6, 7] = 0 := by decide
theorem bg_r : evL [(2, 4)] [true, true] [6, 7] 0 = [true, false] := by decide
theorem bg_w : WfP [(2, 4)] := fun i h => by
  match i, h with
  | 0, _ => exact ⟨⟨by simp, by simp⟩, ⟨by simp, by simp⟩⟩

set_option maxRecDepth 100000 in
set_option maxHeartbeats 4000000 in
theorem begun_any (w : World) : Calls Try.prog 13 #[] w fun e w' => e = .returned (.bool true) ∧ Below w.heap.size w w' := by
  have H1 := hide (and_any 2 none 0 [] (fun i h => by simp at h) (by simp) 4 2 w (fun h => by simp at h))
  unfold AndOut at H1
  rw [bg_e, bg_l, bg_i, bg_p] at H1
  go_enter Try.func13, Try.ntmps13
  go_wp2_with fail
  refine H1.out.mono ?_
  rintro e w1 ⟨⟨pv, cv, rfl, hp⟩, hb1⟩
  have hbA : Below w1.heap.size w1 (((w1.alloc (.cells #[.int .i64 2, .slice pv 1 cv] 24)).alloc (.cells #[.bool true, .bool true] 4)).alloc (.cells #[.int .i64 6, .int .i64 7] 3)) := bal (bal (bal (Below.refl _ _) _) _) _
  have HBB : Hid (BoolsAt (((w1.alloc (.cells #[.int .i64 2, .slice pv 1 cv] 24)).alloc (.cells #[.bool true, .bool true] 4)).alloc (.cells #[.int .i64 6, .int .i64 7] 3)) (some ⟨w1.heap.size + 1, 0, none⟩) [true, true]) := fun _ => ⟨w1.heap.size + 1, 0, rfl, fun i hi => by
    match i, hi with
    | 0, _ => simp [go_sem]
    | 1, _ => simp [go_sem]⟩
  have HII : Hid (IntsAt (((w1.alloc (.cells #[.int .i64 2, .slice pv 1 cv] 24)).alloc (.cells #[.bool true, .bool true] 4)).alloc (.cells #[.int .i64 6, .int .i64 7] 3)) (some ⟨w1.heap.size + 2, 0, none⟩) [6, 7]) := fun _ => ⟨w1.heap.size + 2, 0, rfl, fun i hi => by
    match i, hi with
    | 0, _ => simp [go_sem]
    | 1, _ => simp [go_sem]⟩
  have HE := hide (eval_any 2 pv cv [(2, 4)] bg_w (by simp) _ 2 [true, true] (by simp [maxLen]) (fun h => by cases h) _ 2 [6, 7] (by simp) _ (hp.later hbA) HBB.out HII.out)
  rw [bg_v, bg_r] at HE
  have HPP := hide hp
  have HBA := hide (bthen hb1 hbA)
  have HBA1 := hide hbA
  clear hb1 hbA hp H1 HBB HII
  go_wp2_with fail
  refine HE.out.mono ?_
  rintro e w2 ⟨pr, cr, rfl, hbr, hb2⟩
  obtain ⟨rb, ro, rfl, hrc⟩ := hbr (by simp)
  have e0 := hrc 0 (by simp)
  have e1 := hrc 1 (by simp)
  simp at e0 e1
  have q0 := cell_later hb2 (a := ⟨w1.heap.size, 0, none⟩) (v := .int .i64 2) (by simp [go_sem])
  have q1 := cell_later hb2 (a := ⟨w1.heap.size, 1, none⟩) (v := .slice pv 1 cv) (by simp [go_sem])
  have HB2 := hide (bthen HBA.out hb2)
  have HCK := hide (check_any 2 pv cv [(2, 4)] bg_w (by simp) w2 (HPP.out.later (bthen HBA1.out hb2)))
  rw [bg_c] at HCK
  clear hb2 hrc hbr HBA HBA1 HPP HE
  go_wp2_with fail
  refine HCK.out.mono ?_
  rintro e w3 ⟨rfl, hb3⟩
  have HB3 := hide (bthen HB2.out hb3)
  clear hb3 HB2 HCK
  go_wp2
  go_ret
  exact ⟨rfl, HB3.out⟩

end Go.Proofs.Ytabnimgpednhjab
