/- Clauses: Holds. -/
import Derived.Test.YtkinmangilbeeaaGreatDoorCeM
import Derived.Laws.EntriesVeiled
namespace Go.Proofs.YtkinmangilbeeaaGreatDoor
open Go.RowKit Go.Maps Go.WideMaps
set_option maxRecDepth 100000

def findR (f : Row → Bool) (l : List Row) : Int := match l.findIdx? f with | some i => (i : Int) | none => -1
theorem findR_ge (f : Row → Bool) (l : List Row) : decide (0 ≤ findR f l) = l.any f := by
  unfold findR
  cases h : l.findIdx? f with
  | some i =>
    obtain ⟨hi, hf, _⟩ := List.findIdx?_eq_some_iff_getElem.1 h
    have : l.any f = true := List.any_eq_true.2 ⟨_, List.getElem_mem hi, hf⟩
    rw [this]; simp
  | none =>
    have := List.findIdx?_eq_none_iff.1 h
    have h2 : l.any f = false := by rw [List.any_eq_false]; intro x hx; simp [this x hx]
    rw [h2]; simp
theorem findR_hit (f : Row → Bool) (l : List Row) (k : Nat) (hk : k < l.length) (h : ∀ i (hi : i < l.length), i < k → f l[i] = false) (hf : f l[k] = true) : findR f l = k := by
  unfold findR
  have : l.findIdx? f = some k := List.findIdx?_eq_some_iff_getElem.2 ⟨hk, hf, fun j hj => by simp [h j (by omega) hj]⟩
  rw [this]
theorem findR_miss (f : Row → Bool) (l : List Row) (h : ∀ i (hi : i < l.length), f l[i] = false) : findR f l = -1 := by
  have : l.findIdx? f = none := List.findIdx?_eq_none_iff.2 fun x hx => by
    obtain ⟨i, hi, rfl⟩ := List.getElem_of_mem hx
    exact h i hi
  unfold findR
  rw [this]

set_option maxRecDepth 100000 in
set_option maxHeartbeats 2000000 in
theorem indexRows_any (fn : FuncId) (c : Value) (f : Row → Bool) (l : List Row) (p : Option Addr) (cap : Nat) (w : World) (hl : l.length ≤ maxLen) (hI : RowsAt w p l) (hent : ∀ (args : Array Value) (w : World), (callFunc fn args).run Tryz.prog w = .ok (.enter fn args) w)
    (hcl : ∀ wr, Below w.heap.size w wr → ∀ i (h : i < l.length), Calls Tryz.prog fn #[l[i].v, c] wr fun e w' => e = .returned (.bool (f l[i])) ∧ Below wr.heap.size wr w') :
    Calls Tryz.prog 32 #[.slice p l.length cap, .func (.func fn) #[] #[c]] w fun e w' => e = .returned (.int .i64 (findR f l)) ∧ Below w.heap.size w w' := by
  have HC := hide hcl
  unfold maxLen at hl
  clear hcl
  go_enter Tryz.func32, Tryz.ntmps32
  go_wp2
  go_loopw [8] (fun i wr => ∃ k : Nat, k ≤ l.length ∧ i = .int .i64 k ∧ Hid (∀ i (hi : i < l.length), i < k → f l[i] = false) ∧ Below w.heap.size w wr) (fun i _ => l.length - (intOf i).toNat)
  case atStart => exact ⟨0, Nat.zero_le _, rfl, fun i hi h => by omega, Below.refl _ _⟩
  case round =>
    obtain ⟨k, hk, rfl, hno, hbw⟩ := hrel
    by_cases hlt : k < l.length
    · obtain ⟨b, off, rfl, hc⟩ := (hI.later hbw) (by omega)
      have hck := hc k hlt
      have HCC := hide (fun _ : Unit => HC.out wr hbw k hlt)
      have HH := hide (findR_hit f l k hlt hno.out)
      clear hc
      cases hf : f l[k]
      · have HN : Hid (∀ i (hi : i < l.length), i < k + 1 → f l[i] = false) := by
          intro i hi h
          rcases Nat.lt_succ_iff_lt_or_eq.1 h with h1 | rfl
          · exact hno.out i hi h1
          · exact hf
        rw [hf] at HCC
        clear hf hno HH
        generalize l[k].v = x at *
        go_wp2_with fail
        refine (HCC.out ()).mono ?_
        rintro e w' ⟨rfl, hb2⟩
        go_wp2
        go_roundw
        case rel => exact ⟨k + 1, by omega, by go_num, HN, bthen hbw hb2⟩
        case measure => simp [intOf]; omega
      · rw [hf] at HCC
        have HV := hide (HH.out hf)
        clear hf hno HH
        generalize l[k].v = x at *
        go_wp2_with fail
        refine (HCC.out ()).mono ?_
        rintro e w' ⟨rfl, hb2⟩
        go_wp2
        go_ret
        exact ⟨ret_int HV.out.symm, bthen hbw hb2⟩
    · have HV := hide (findR_miss f l (fun i hi => hno.out i hi (by omega)))
      go_wp2
      go_ret
      exact ⟨ret_int HV.out.symm, hbw⟩

theorem containsRows_any (fn : FuncId) (c : Value) (f : Row → Bool) (l : List Row) (p : Option Addr) (cap : Nat) (w : World) (hl : l.length ≤ maxLen) (hI : RowsAt w p l) (hent : ∀ (args : Array Value) (w : World), (callFunc fn args).run Tryz.prog w = .ok (.enter fn args) w)
    (hcl : ∀ wr, Below w.heap.size w wr → ∀ i (h : i < l.length), Calls Tryz.prog fn #[l[i].v, c] wr fun e w' => e = .returned (.bool (f l[i])) ∧ Below wr.heap.size wr w') :
    Calls Tryz.prog 21 #[.slice p l.length cap, .func (.func fn) #[] #[c]] w fun e w' => e = .returned (.bool (l.any f)) ∧ Below w.heap.size w w' := by
  have HCC := hide (fun _ : Unit => indexRows_any fn c f l p cap w hl hI hent hcl)
  have HG := hide (findR_ge f l)
  clear hcl hent
  generalize findR f l = x at *
  go_enter Tryz.func21, Tryz.ntmps21
  go_wp2_with fail
  refine (HCC.out ()).mono ?_
  rintro e w' ⟨rfl, hb2⟩
  go_wp2
  go_ret
  exact ⟨ret_bool HG.out, hb2⟩

theorem enter41 (args : Array Value) (w : World) : (callFunc 19 args).run Tryz.prog w = .ok (.enter 19 args) w := by kernel_rfl
theorem enter42 (args : Array Value) (w : World) : (callFunc 20 args).run Tryz.prog w = .ok (.enter 20 args) w := by kernel_rfl

set_option maxHeartbeats 1000000 in
theorem holds1_any (v : List Bool) (p : Option Addr) (cap : Nat) (n : Int) (hv : v.length ≤ 200000) (hn : n ≠ 0) (h1 : -v.length ≤ n) (h2 : n ≤ v.length) (B : Nat) (w : World) (hB : w.cell? ⟨B, 0, none⟩ = some (.slice p v.length cap)) (hV : BoolsAt w p v) :
    Calls Tryz.prog 19 #[.int .i64 n, .pointer (some ⟨B, 0, none⟩)] w fun r w' => r = .returned (.bool (soN v n)) ∧ Below w.heap.size w w' := by
  obtain ⟨b, off, rfl, hc⟩ := hV (by omega)
  by_cases h : n < 0
  · have hi : (-n).toNat - 1 < v.length := by omega
    have c0 := hc ((-n).toNat - 1) hi
    have HX : Hid (soN v n = !v[(-n).toNat - 1]) := by
      have := soN_neg v (-n) (by omega)
      rw [Int.neg_neg, getD_bools hi] at this
      exact this
    clear hc hV
    generalize soN v n = R at *
    generalize v[(-n).toNat - 1] = x at *
    have hi0 : (0 : Int) ≤ -n - 1 := by omega
    have hi1 : -n - 1 < (v.length : Int) := by omega
    have hw1 := wrap_id (x := -n) (by omega) (by omega)
    have hw2 := wrap_id (x := -n - 1) (by omega) (by omega)
    go_enter Tryz.func19, Tryz.ntmps19
    go_wp2
    go_ret
    exact ⟨ret_bool HX.out.symm, Below.refl _ _⟩
  · have hi : n.toNat - 1 < v.length := by omega
    have c0 := hc (n.toNat - 1) hi
    have HX : Hid (soN v n = v[n.toNat - 1]) := by
      have := soN_pos v n (by omega)
      rw [getD_bools hi] at this
      exact this
    clear hc hV
    generalize soN v n = R at *
    generalize v[n.toNat - 1] = x at *
    have hi0 : (0 : Int) ≤ n - 1 := by omega
    have hi1 : n - 1 < (v.length : Int) := by omega
    go_enter Tryz.func19, Tryz.ntmps19
    go_wp2
    go_ret
    exact ⟨ret_bool HX.out.symm, Below.refl _ _⟩

theorem holds2_any (v : List Bool) (p : Option Addr) (cap : Nat) (r : Row) (hv : v.length ≤ 200000) (hr : r.ns.length ≤ maxLen) (hn : ∀ n ∈ r.ns, n ≠ 0 ∧ -v.length ≤ n ∧ n ≤ v.length) (B F : Nat) (w : World) (hB : w.cell? ⟨B, 0, none⟩ = some (.slice p v.length cap)) (hF : w.cell? ⟨F, 0, none⟩ = some (.func (.func 19) #[] #[.pointer (some ⟨B, 0, none⟩)])) (hV : BoolsAt w p v) (hI : IntsAt w r.at' r.ns) :
    Calls Tryz.prog 20 #[r.v, .pointer (some ⟨F, 0, none⟩)] w fun e w' => e = .returned (.bool (!r.ns.any (soN v))) ∧ Below w.heap.size w w' := by
  obtain ⟨ra, rn, rc⟩ := r
  unfold Row.v
  simp only at *
  have HCF := hide (containsFunc_any 19 (.pointer (some ⟨B, 0, none⟩)) (soN v) rn ra rc w hr hI enter41 (fun wr hb i hi => by
    obtain ⟨n1, n2, n3⟩ := hn _ (List.getElem_mem hi)
    exact holds1_any v p cap _ hv n1 n2 n3 B wr (cell_later hb hB) (hV.later hb)))
  clear hn hV hI
  go_enter Tryz.func20, Tryz.ntmps20
  go_wp2_with fail
  refine HCF.out.mono ?_
  rintro e w2 ⟨rfl, hb2⟩
  go_wp2
  go_ret
  exact ⟨rfl, hb2⟩

/-- What Holds says. -/
def hoE (vars : Int) (L : List (List Int)) (v : List Bool) : Int := if chkC vars L ≠ 0 then chkC vars L else if (v.length : Int) ≠ vars then 1 else 0
def hoB (vars : Int) (L : List (List Int)) (v : List Bool) : Bool := if hoE vars L v = 0 then holdsL v L else false

theorem row_zero {vars : Int} {ns : List Int} (h : rowE vars ns = 0) : ns.length ≤ 200 ∧ ∀ n ∈ ns, n ≠ 0 ∧ -vars ≤ n ∧ n ≤ vars := by
  unfold rowE at h
  split at h
  · cases h
  · split at h
    · cases h
    · rename_i h1 h2
      refine ⟨by omega, fun n hn => ?_⟩
      have : ns.any (noneC vars) = false := by simpa using h2
      rw [List.any_eq_false] at this
      have := this n hn
      simp [noneC] at this
      omega
theorem first_zero {vars : Int} {L : List (List Int)} (h : firstE vars L = 0) : ∀ ns ∈ L, rowE vars ns = 0 := by
  induction L with
  | nil => intro ns hn; simp at hn
  | cons a t ih =>
    unfold firstE at h
    by_cases h0 : rowE vars a = 0
    · rw [if_neg (by simpa using h0)] at h
      intro ns hn
      rcases List.mem_cons.1 hn with rfl | hn
      · exact h0
      · exact ih h ns hn
    · rw [if_pos h0] at h; exact absurd h h0
theorem chkC_zero {vars : Int} {L : List (List Int)} (h : chkC vars L = 0) : 0 ≤ vars ∧ vars ≤ 200000 ∧ L.length ≤ 800000 ∧ ∀ ns ∈ L, ns.length ≤ 200 ∧ ∀ n ∈ ns, n ≠ 0 ∧ -vars ≤ n ∧ n ≤ vars := by
  unfold chkC at h
  split at h
  · cases h
  · split at h
    · cases h
    · rename_i h1 h2
      have := btw_true.1 (by simpa using h1)
      exact ⟨this.1, this.2, by omega, fun ns hn => row_zero (first_zero h ns hn)⟩

theorem rows_hold (v : List Bool) (rs : List Row) : (!rs.any fun r => !r.ns.any (soN v)) = holdsL v (numsOf rs) := by
  unfold holdsL numsOf
  induction rs with
  | nil => rfl
  | cons r t ih => simp at ih; simp [ih]

set_option maxRecDepth 100000 in
set_option maxHeartbeats 4000000 in
theorem holds_any (vars : Int) (p : Option Addr) (cap : Nat) (rs : List Row) (hl : rs.length ≤ 8796093022208) (hin : ∀ r ∈ rs, r.ns.length ≤ maxLen) (v : List Bool) (q : Option Addr) (qc : Nat) (hvl : v.length ≤ maxLen) (w : World) (hC : ClAt w p rs) (hV : BoolsAt w q v) :
    Calls Tryz.prog 9 #[cval vars p rs.length cap, .slice q v.length qc] w fun e w' => e = .returned (.tuple #[.bool (hoB vars (numsOf rs) v), .int .i64 (hoE vars (numsOf rs) v)]) ∧ Below w.heap.size w w' := by
  have hB0 : Below w.heap.size w ((w.alloc (.cells #[.int .i64 vars, .slice p rs.length cap] 24)).alloc (.cells #[.slice q v.length qc] 25)) := bal (bal (Below.refl _ _) _) _
  have HCK := hide (checkC_any vars p cap rs (by omega) hin _ (hC.later hB0))
  have HC := hide hC
  have HV := hide hV
  have HIN := hide hin
  unfold maxLen at hvl
  clear hC hV hin
  by_cases hc : chkC vars (numsOf rs) = 0
  · obtain ⟨v0, v1, hln, hall⟩ := chkC_zero hc
    rw [numsOf_len] at hln
    have HALL : Hid (∀ r ∈ rs, r.ns.length ≤ 200 ∧ ∀ n ∈ r.ns, n ≠ 0 ∧ -vars ≤ n ∧ n ≤ vars) := fun r hr => hall r.ns (by unfold numsOf; exact List.mem_map.2 ⟨r, hr, rfl⟩)
    have HE : Hid (hoE vars (numsOf rs) v = if (v.length : Int) ≠ vars then 1 else 0) := by unfold hoE; rw [if_neg (by simpa using hc)]; rfl
    rw [hc] at HCK
    clear hc hall
    go_enter Tryz.func9, Tryz.ntmps9
    go_wp2_with fail
    refine HCK.out.mono ?_
    rintro e w1 ⟨rfl, hb1⟩
    have HB1 := hide (bthen hB0 hb1)
    have q0 := cell_later hb1 (a := ⟨w.heap.size, 0, none⟩) (v := .int .i64 vars) (by simp [go_sem])
    have q1 := cell_later hb1 (a := ⟨w.heap.size, 1, none⟩) (v := .slice p rs.length cap) (by simp [go_sem])
    have q2 := cell_later hb1 (a := ⟨w.heap.size + 1, 0, none⟩) (v := .slice q v.length qc) (by simp [go_sem])
    clear hb1 hB0 HCK
    by_cases hvv : (v.length : Int) = vars
    · have HE0 : Hid (hoE vars (numsOf rs) v = 0) := by rw [HE.out, if_neg (by simpa using hvv)]; rfl
      have HB0 : Hid (hoB vars (numsOf rs) v = holdsL v (numsOf rs)) := by unfold hoB; rw [if_pos HE0.out]; rfl
      subst hvv
      have hne : ((v.length : Int) != (v.length : Int)) = false := by simp
      have hbF : Below w1.heap.size w1 (w1.alloc (.cells #[.func (.func 19) #[] #[.pointer (some ⟨w.heap.size + 1, 0, none⟩)]] 44)) := bal (Below.refl _ _) _
      have a1 := cell_later hbF q1
      have HCR := hide (containsRows_any 20 (.pointer (some ⟨w1.heap.size, 0, none⟩)) (fun r => !r.ns.any (soN v)) rs p cap (w1.alloc (.cells #[.func (.func 19) #[] #[.pointer (some ⟨w.heap.size + 1, 0, none⟩)]] 44)) (by unfold maxLen; omega) (HC.out.rows.later (bthen HB1.out hbF)) enter42 (fun wr hb i hi => by
        have hm := List.getElem_mem hi
        have h3 := HALL.out rs[i] hm
        have hbb := bthen hbF hb
        exact holds2_any v q qc rs[i] (by omega) (HIN.out _ hm) h3.2 (w.heap.size + 1) w1.heap.size wr (cell_later hbb q2) (cell_later hb (by simp [go_sem])) (HV.out.later (bthen HB1.out hbb)) (HC.out.inn.later (bthen HB1.out hbb) _ hm)))
      have HRH := hide (rows_hold v rs)
      have HBF := hide hbF
      clear HE hbF
      go_wp2_with fail
      refine HCR.out.mono ?_
      rintro e w2 ⟨rfl, hb2⟩
      have HB2 := hide (bthen (bthen HB1.out HBF.out) hb2)
      clear hb2 HCR
      generalize (rs.any fun r => !r.ns.any (soN v)) = X at *
      go_wp2
      go_ret2
      exact ⟨by rw [HB0.out, HE0.out, ← HRH.out]; rfl, HB2.out⟩
    · have HE1 : Hid (hoE vars (numsOf rs) v = 1) := by rw [HE.out, if_pos (by simpa using hvv)]; rfl
      have HB0 : Hid (hoB vars (numsOf rs) v = false) := by unfold hoB; rw [if_neg (by rw [HE1.out]; decide)]; rfl
      have hne : ((v.length : Int) != vars) = true := by simpa using hvv
      clear HE hvv
      go_wp2
      go_ret2
      exact ⟨by rw [HB0.out, HE1.out]; rfl, HB1.out⟩
  · have hne : (chkC vars (numsOf rs) != 0) = true := by simpa using hc
    have HE : Hid (hoE vars (numsOf rs) v = chkC vars (numsOf rs)) := by unfold hoE; rw [if_pos hc]; rfl
    have HB : Hid (hoB vars (numsOf rs) v = false) := by unfold hoB; rw [if_neg (by rw [HE.out]; exact hc)]; rfl
    clear hc
    generalize chkC vars (numsOf rs) = R at *
    go_enter Tryz.func9, Tryz.ntmps9
    go_wp2_with fail
    refine HCK.out.mono ?_
    rintro e w1 ⟨rfl, hb1⟩
    have HB1 := hide (bthen hB0 hb1)
    clear hb1 hB0 HCK
    go_wp2
    go_ret2
    exact ⟨by rw [HB.out, HE.out]; rfl, HB1.out⟩

end Go.Proofs.YtkinmangilbeeaaGreatDoor

namespace Go.Proofs.YtkinmangilbeeaaGreatDoor
open Go.RowKit Go.Maps Go.WideMaps
set_option maxRecDepth 100000

theorem row_ok {vars : Int} {ns : List Int} (h1 : ns.length ≤ 200) (h2 : ∀ n ∈ ns, n ≠ 0 ∧ -vars ≤ n ∧ n ≤ vars) : rowE vars ns = 0 := by
  unfold rowE
  rw [if_neg (by omega)]
  have : ns.any (noneC vars) = false := by
    rw [List.any_eq_false]
    intro n hn
    have := h2 n hn
    simp [noneC]
    omega
  rw [this]
  rfl
theorem first_ok {vars : Int} {L : List (List Int)} (h : ∀ ns ∈ L, rowE vars ns = 0) : firstE vars L = 0 := by
  induction L with
  | nil => rfl
  | cons a t ih =>
    unfold firstE
    rw [h a (by simp), if_neg (by simp)]
    exact ih (fun ns hn => h ns (by simp [hn]))
theorem numL_in {x vars : Int} (h : 2 ≤ x) (h2 : x < 2 * (1 + vars)) : numL x ≠ 0 ∧ -vars ≤ numL x ∧ numL x ≤ vars ∧ -numL x ≠ 0 ∧ -vars ≤ -numL x ∧ -numL x ≤ vars := by
  unfold numL
  split <;> omega
theorem andC_ok {vars n a b : Int} (hn : 1 ≤ n) (hn2 : n ≤ vars) (h : standB a b n = true) : ∀ ns ∈ andC n a b, rowE vars ns = 0 := by
  obtain ⟨a0, a1, b0, b1⟩ := stand_two h
  have ha := numL_in (vars := vars) a0 (by omega)
  have hb := numL_in (vars := vars) b0 (by omega)
  intro ns hns
  simp [andC] at hns
  rcases hns with rfl | rfl | rfl
  · refine row_ok (by simp) fun m hm => ?_
    simp at hm
    rcases hm with rfl | rfl <;> omega
  · refine row_ok (by simp) fun m hm => ?_
    simp at hm
    rcases hm with rfl | rfl <;> omega
  · refine row_ok (by simp) fun m hm => ?_
    simp at hm
    rcases hm with rfl | rfl | rfl <;> omega
theorem andsC_ok {ins vars : Int} {ps : List (Int × Int)} (h0 : 0 ≤ ins) (hv : vars = ins + ps.length) (hst : stN ins ps ps.length = true) (k : Nat) (hk : k ≤ ps.length) : ∀ ns ∈ andsC ins ps k, rowE vars ns = 0 := by
  induction k with
  | zero => intro ns hns; simp [andsC] at hns
  | succ k ih =>
    intro ns hns
    rw [andsC_succ (by omega)] at hns
    rcases List.mem_append.1 hns with h | h
    · exact ih (by omega) ns h
    · have hs := stN_down (k := k + 1) hst hk
      rw [stN_succ (by omega), Bool.and_eq_true] at hs
      exact andC_ok (by omega) (by omega) hs.2 ns h
theorem rootC_ok {vars x : Int} (h0 : 0 ≤ x) (h1 : x < 2 * (1 + vars)) : ∀ ns ∈ rootC x, rowE vars ns = 0 := by
  intro ns hns
  unfold rootC at hns
  split at hns
  · simp at hns
  · split at hns
    · simp at hns; subst hns; exact row_ok (by simp) (fun m hm => by simp at hm)
    · simp at hns
      subst hns
      have := numL_in (x := x) (vars := vars) (by omega) h1
      exact row_ok (by simp) (fun m hm => by simp at hm; subst hm; omega)

theorem lits_in {e : Int} {rs : List Int} (h : rs.any (noLit e) = false) : ∀ x ∈ rs, 0 ≤ x ∧ x < e := by
  rw [List.any_eq_false] at h
  intro x hx
  have := h x hx
  simp [noLit] at this
  omega

/-- What Of's not telling an error says. -/
theorem ofE_zero {ins : Int} {ps : List (Int × Int)} {rs : List Int} (h : ofE ins ps rs = 0) : chkE ins ps = 0 ∧ rs.any (noLit (2 * (1 + ins + ps.length))) = false ∧ fitE ins ps.length rs = 0 := by
  unfold ofE at h
  by_cases hc : chkE ins ps = 0
  · rw [if_neg (by simpa using hc)] at h
    cases hn : rs.any (noLit (2 * (1 + ins + ps.length)))
    · rw [hn] at h; exact ⟨hc, rfl, by simpa using h⟩
    · rw [hn] at h; simp at h
  · rw [if_pos hc] at h; exact absurd h hc

theorem cnf_len {ins : Int} {ps : List (Int × Int)} {rs : List Int} : (cnfC ins ps rs).length = 3 * ps.length + cntR rs rs.length := by
  rw [cnfC_all, List.length_append, andsC_len ins ps _ (Nat.le_refl _), rootsC_len rs _ (Nat.le_refl _)]
theorem cnf_rows {ins : Int} {ps : List (Int × Int)} {rs : List Int} (h : ofE ins ps rs = 0) : ∀ ns ∈ cnfC ins ps rs, rowE (ins + ps.length) ns = 0 := by
  obtain ⟨hc, hn, hf⟩ := ofE_zero h
  obtain ⟨h0, h1, hlen, hst, hd⟩ := chk_zero hc
  intro ns hns
  unfold cnfC at hns
  rcases List.mem_append.1 hns with h | h
  · exact andsC_ok h0 rfl hst _ (Nat.le_refl _) ns h
  · obtain ⟨x, hx, hns⟩ := List.mem_flatMap.1 h
    have := lits_in hn x hx
    exact rootC_ok this.1 (by omega) ns hns
theorem cnf_chk {ins : Int} {ps : List (Int × Int)} {rs : List Int} (h : ofE ins ps rs = 0) : chkC (ins + ps.length) (cnfC ins ps rs) = 0 := by
  obtain ⟨hc, hn, hf⟩ := ofE_zero h
  obtain ⟨h0, h1, hlen, hst, hd⟩ := chk_zero hc
  obtain ⟨f1, f2⟩ := fit_zero hf
  unfold chkC
  rw [if_neg (by rw [btw_true.2 ⟨by omega, f2⟩]; decide), if_neg (by rw [cnf_len]; omega)]
  exact first_ok (cnf_rows h)
theorem cnf_short {ins : Int} {ps : List (Int × Int)} {rs : List Int} (h : ofE ins ps rs = 0) {rws : List Row} (hr : numsOf rws = cnfC ins ps rs) : ∀ r ∈ rws, r.ns.length ≤ maxLen := fun r hm => by
  have := (row_zero (cnf_rows h r.ns (by rw [← hr]; exact List.mem_map.2 ⟨r, hm, rfl⟩))).1
  unfold maxLen; omega

theorem cb_e : ofE 2 [(2, 4)] [6] = 0 := by decide
theorem cb_v : ofV 0 (2 + (([(2, 4)] : List (Int × Int)).length : Int)) = 3 := by decide
theorem cb_l : ofL 0 (cnfC 2 [(2, 4)] [6]) = [[-3, 1], [-3, 2], [3, -1, -2], [3]] := by decide
theorem cb_c : chkC 3 [[-3, 1], [-3, 2], [3, -1, -2], [3]] = 0 := by decide
theorem cb_h : hoE 3 [[-3, 1], [-3, 2], [3, -1, -2], [3]] [true, true, true] = 0 := by decide
theorem cb_b : hoB 3 [[-3, 1], [-3, 2], [3, -1, -2], [3]] [true, true, true] = true := by decide

end Go.Proofs.YtkinmangilbeeaaGreatDoor

namespace Go.Proofs.YtkinmangilbeeaaGreatDoor.Pf
open Go.RowKit Go.Maps Go.WideMaps
set_option maxRecDepth 100000
theorem isEmpty_any (p : Option Addr) (n c : Nat) (w : World) : Calls Tryz.prog 23 #[.slice p n c] w fun e w' => e = .returned (.bool (decide (n = 0))) ∧ w' = w := by
  by_cases h : n = 0
  · subst h
    go_enter Tryz.func23, Tryz.ntmps23
    go_wp2_with fail
    go_ret
    exact ⟨rfl, rfl⟩
  · have hd : decide (n = 0) = false := by simpa using h
    have hi : ((n : Int) == 0) = false := by simp only [beq_eq_false_iff_ne, ne_eq]; omega
    rw [hd]
    clear hd
    go_enter Tryz.func23, Tryz.ntmps23
    go_wp2_with fail
    go_ret
    exact ⟨rfl, rfl⟩
end Go.Proofs.YtkinmangilbeeaaGreatDoor.Pf
