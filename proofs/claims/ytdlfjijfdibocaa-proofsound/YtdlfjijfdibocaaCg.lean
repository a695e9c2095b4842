/- Clauses: those of a graph pass Check; what must be in any case. -/
import Derived.Test.YtdlfjijfdibocaaCf
namespace Go.Proofs.Ytdlfjijfdibocaa
open Go.RowKit Go.Maps Go.WideMaps
set_option maxRecDepth 100000

theorem row_ok {vars : Int} {ns : List Int} (h1 : ns.length ≤ 200) (h2 : ∀ n ∈ ns, n ≠ 0 ∧ -vars ≤ n ∧ n ≤ vars) : rowE vars ns = 0 := by
  unfold rowE
  rw [if_neg (by omega)]
  have : ns.any (noneC vars) = false := by
    rw [List.any_eq_false]
    intro n hn
    have := h2 n hn
    simp [noneC]
    omega
  rw [this]
  rfl
theorem first_ok {vars : Int} {L : List (List Int)} (h : ∀ ns ∈ L, rowE vars ns = 0) : firstE vars L = 0 := by
  induction L with
  | nil => rfl
  | cons a t ih =>
    unfold firstE
    rw [h a (by simp), if_neg (by simp)]
    exact ih (fun ns hn => h ns (by simp [hn]))
theorem numL_in {x vars : Int} (h : 2 ≤ x) (h2 : x < 2 * (1 + vars)) : numL x ≠ 0 ∧ -vars ≤ numL x ∧ numL x ≤ vars ∧ -numL x ≠ 0 ∧ -vars ≤ -numL x ∧ -numL x ≤ vars := by
  unfold numL
  split <;> omega
theorem andC_ok {vars n a b : Int} (hn : 1 ≤ n) (hn2 : n ≤ vars) (h : standB a b n = true) : ∀ ns ∈ andC n a b, rowE vars ns = 0 := by
  obtain ⟨a0, a1, b0, b1⟩ := stand_two h
  have ha := numL_in (vars := vars) a0 (by omega)
  have hb := numL_in (vars := vars) b0 (by omega)
  intro ns hns
  simp [andC] at hns
  rcases hns with rfl | rfl | rfl
  · refine row_ok (by simp) fun m hm => ?_
    simp at hm
    rcases hm with rfl | rfl <;> omega
  · refine row_ok (by simp) fun m hm => ?_
    simp at hm
    rcases hm with rfl | rfl <;> omega
  · refine row_ok (by simp) fun m hm => ?_
    simp at hm
    rcases hm with rfl | rfl | rfl <;> omega
theorem andsC_ok {ins vars : Int} {ps : List (Int × Int)} (h0 : 0 ≤ ins) (hv : vars = ins + ps.length) (hst : stN ins ps ps.length = true) (k : Nat) (hk : k ≤ ps.length) : ∀ ns ∈ andsC ins ps k, rowE vars ns = 0 := by
  induction k with
  | zero => intro ns hns; simp [andsC] at hns
  | succ k ih =>
    intro ns hns
    rw [andsC_succ (by omega)] at hns
    rcases List.mem_append.1 hns with h | h
    · exact ih (by omega) ns h
    · have hs := stN_down (k := k + 1) hst hk
      rw [stN_succ (by omega), Bool.and_eq_true] at hs
      exact andC_ok (by omega) (by omega) hs.2 ns h
theorem rootC_ok {vars x : Int} (h0 : 0 ≤ x) (h1 : x < 2 * (1 + vars)) : ∀ ns ∈ rootC x, rowE vars ns = 0 := by
  intro ns hns
  unfold rootC at hns
  split at hns
  · simp at hns
  · split at hns
    · simp at hns; subst hns; exact row_ok (by simp) (fun m hm => by simp at hm)
    · simp at hns
      subst hns
      have := numL_in (x := x) (vars := vars) (by omega) h1
      exact row_ok (by simp) (fun m hm => by simp at hm; subst hm; omega)

theorem lits_in {e : Int} {rs : List Int} (h : rs.any (noLit e) = false) : ∀ x ∈ rs, 0 ≤ x ∧ x < e := by
  rw [List.any_eq_false] at h
  intro x hx
  have := h x hx
  simp [noLit] at this
  omega

/-- What Of's not telling an error says. -/
theorem ofE_zero {ins : Int} {ps : List (Int × Int)} {rs : List Int} (h : ofE ins ps rs = 0) : chkE ins ps = 0 ∧ rs.any (noLit (2 * (1 + ins + ps.length))) = false ∧ fitE ins ps.length rs = 0 := by
  unfold ofE at h
  by_cases hc : chkE ins ps = 0
  · rw [if_neg (by simpa using hc)] at h
    cases hn : rs.any (noLit (2 * (1 + ins + ps.length)))
    · rw [hn] at h; exact ⟨hc, rfl, by simpa using h⟩
    · rw [hn] at h; simp at h
  · rw [if_pos hc] at h; exact absurd h hc

theorem cnf_len {ins : Int} {ps : List (Int × Int)} {rs : List Int} : (cnfC ins ps rs).length = 3 * ps.length + cntR rs rs.length := by
  rw [cnfC_all, List.length_append, andsC_len ins ps _ (Nat.le_refl _), rootsC_len rs _ (Nat.le_refl _)]
theorem cnf_rows {ins : Int} {ps : List (Int × Int)} {rs : List Int} (h : ofE ins ps rs = 0) : ∀ ns ∈ cnfC ins ps rs, rowE (ins + ps.length) ns = 0 := by
  obtain ⟨hc, hn, hf⟩ := ofE_zero h
  obtain ⟨h0, h1, hlen, hst, hd⟩ := chk_zero hc
  intro ns hns
  unfold cnfC at hns
  rcases List.mem_append.1 hns with h | h
  · exact andsC_ok h0 rfl hst _ (Nat.le_refl _) ns h
  · obtain ⟨x, hx, hns⟩ := List.mem_flatMap.1 h
    have := lits_in hn x hx
    exact rootC_ok this.1 (by omega) ns hns
theorem cnf_chk {ins : Int} {ps : List (Int × Int)} {rs : List Int} (h : ofE ins ps rs = 0) : chkC (ins + ps.length) (cnfC ins ps rs) = 0 := by
  obtain ⟨hc, hn, hf⟩ := ofE_zero h
  obtain ⟨h0, h1, hlen, hst, hd⟩ := chk_zero hc
  obtain ⟨f1, f2⟩ := fit_zero hf
  unfold chkC
  rw [if_neg (by rw [btw_true.2 ⟨by omega, f2⟩]; decide), if_neg (by rw [cnf_len]; omega)]
  exact first_ok (cnf_rows h)
theorem cnf_short {ins : Int} {ps : List (Int × Int)} {rs : List Int} (h : ofE ins ps rs = 0) {rws : List Row} (hr : numsOf rws = cnfC ins ps rs) : ∀ r ∈ rws, r.ns.length ≤ maxLen := fun r hm => by
  have := (row_zero (cnf_rows h r.ns (by rw [← hr]; exact List.mem_map.2 ⟨r, hm, rfl⟩))).1
  unfold maxLen; omega

theorem cb_e : ofE 2 [(2, 4)] [6] = 0 := by decide
theorem cb_v : ofV 0 (2 + (([(2, 4)] : List (Int × Int)).length : Int)) = 3 := by decide
theorem cb_l : ofL 0 (cnfC 2 [(2, 4)] [6]) = [[-3, 1], [-3, 2], [3, -1, -2], [3]] := by decide
theorem cb_c : chkC 3 [[-3, 1], [-3, 2], [3, -1, -2], [3]] = 0 := by decide
theorem cb_h : hoE 3 [[-3, 1], [-3, 2], [3, -1, -2], [3]] [true, true, true] = 0 := by decide
theorem cb_b : hoB 3 [[-3, 1], [-3, 2], [3, -1, -2], [3]] [true, true, true] = true := by decide

set_option maxRecDepth 100000 in
set_option maxHeartbeats 4000000 in
theorem cnfBegun_any (w : World) : Calls Try.prog 5 #[] w fun e w' => e = .returned (.bool true) ∧ Below w.heap.size w w' := by
  have hbA : Below w.heap.size w ((w.alloc (.cells #[.int .i64 2, .int .i64 4] 36)).alloc (.cells #[.int .i64 6] 3)) := bal (bal (Below.refl _ _) _) _
  have HPP : Hid (PairsAt ((w.alloc (.cells #[.int .i64 2, .int .i64 4] 36)).alloc (.cells #[.int .i64 6] 3)) (some ⟨w.heap.size, 0, none⟩) [(2, 4)]) := fun _ => ⟨w.heap.size, 0, rfl, fun i hi => by
    match i, hi with
    | 0, _ => exact ⟨by simp [go_sem], by simp [go_sem]⟩⟩
  have HII : Hid (IntsAt ((w.alloc (.cells #[.int .i64 2, .int .i64 4] 36)).alloc (.cells #[.int .i64 6] 3)) (some ⟨w.heap.size + 1, 0, none⟩) [6]) := fun _ => ⟨w.heap.size + 1, 0, rfl, fun i hi => by
    match i, hi with
    | 0, _ => simp [go_sem]⟩
  have H1 := hide (of_any 2 (some ⟨w.heap.size, 0, none⟩) 1 [(2, 4)] bg_w (by simp) [6] (some ⟨w.heap.size + 1, 0, none⟩) 1 (by simp) _ HPP.out HII.out)
  unfold OfOut at H1
  rw [cb_e, cb_v, cb_l] at H1
  have HBA := hide hbA
  clear HPP HII hbA
  go_enter Try.func5, Try.ntmps5
  go_wp2_with fail
  refine H1.out.mono ?_
  rintro e w1 ⟨⟨pv, cv, rws, rfl, hnum, hcl⟩, hb1⟩
  have hlen : rws.length = 4 := by rw [← numsOf_len, hnum]; rfl
  have hbB : Below w1.heap.size w1 ((w1.alloc (.cells #[.int .i64 3, .slice pv 4 cv] 24)).alloc (.cells #[.bool true, .bool true, .bool true] 4)) := bal (bal (Below.refl _ _) _) _
  have HBB : Hid (BoolsAt ((w1.alloc (.cells #[.int .i64 3, .slice pv 4 cv] 24)).alloc (.cells #[.bool true, .bool true, .bool true] 4)) (some ⟨w1.heap.size + 1, 0, none⟩) [true, true, true]) := fun _ => ⟨w1.heap.size + 1, 0, rfl, fun i hi => by
    match i, hi with
    | 0, _ => simp [go_sem]
    | 1, _ => simp [go_sem]
    | 2, _ => simp [go_sem]⟩
  have hsh : ∀ r ∈ rws, r.ns.length ≤ maxLen := fun r hr => by
    have : r.ns ∈ numsOf rws := List.mem_map.2 ⟨r, hr, rfl⟩
    rw [hnum] at this
    simp at this
    unfold maxLen
    rcases this with h | h | h | h <;> rw [h] <;> simp
  have H2 := hide (holds_any 3 pv cv rws (by omega) hsh [true, true, true] _ 3 (by simp [maxLen]) _ (hcl.later hbB) HBB.out)
  have HCK := hide (fun (w' : World) (hb : Below w1.heap.size w1 w') => checkC_any 3 pv cv rws (by omega) hsh w' (hcl.later hb))
  rw [hnum, cb_h, cb_b, hlen] at H2
  rw [hnum, cb_c, hlen] at HCK
  rw [hlen]
  have HB1 := hide (bthen (bthen HBA.out hb1) hbB)
  have HBB1 := hide hbB
  clear hnum hcl hb1 hbB HBB hsh hlen H1 HBA
  go_wp2_with fail
  refine H2.out.mono ?_
  rintro e w2 ⟨rfl, hb2⟩
  have q0 := cell_later hb2 (a := ⟨w1.heap.size, 0, none⟩) (v := .int .i64 3) (by simp [go_sem])
  have q1 := cell_later hb2 (a := ⟨w1.heap.size, 1, none⟩) (v := .slice pv 4 cv) (by simp [go_sem])
  have HB2 := hide (bthen HB1.out hb2)
  have HC2 := hide (HCK.out _ (bthen HBB1.out hb2))
  clear hb2 H2 HB1 HBB1 HCK
  go_wp2_with fail
  refine HC2.out.mono ?_
  rintro e w3 ⟨rfl, hb3⟩
  have HB3 := hide (bthen HB2.out hb3)
  clear hb3 HB2 HC2
  go_wp2
  go_ret
  exact ⟨rfl, HB3.out⟩

end Go.Proofs.Ytdlfjijfdibocaa
