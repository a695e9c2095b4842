/- Clauses: Holds. -/
import Derived.Test.YtdlfjijfdibocaaCe
import Derived.Laws.EntriesVeiled
namespace Go.Proofs.Ytdlfjijfdibocaa
open Go.RowKit Go.Maps Go.WideMaps
set_option maxRecDepth 100000

def findR (f : Row → Bool) (l : List Row) : Int := match l.findIdx? f with | some i => (i : Int) | none => -1
theorem findR_ge (f : Row → Bool) (l : List Row) : decide (0 ≤ findR f l) = l.any f := by
  unfold findR
  cases h : l.findIdx? f with
  | some i =>
    obtain ⟨hi, hf, _⟩ := List.findIdx?_eq_some_iff_getElem.1 h
    have : l.any f = true := List.any_eq_true.2 ⟨_, List.getElem_mem hi, hf⟩
    rw [this]; simp
  | none =>
    have := List.findIdx?_eq_none_iff.1 h
    have h2 : l.any f = false := by rw [List.any_eq_false]; intro x hx; simp [this x hx]
    rw [h2]; simp
theorem findR_hit (f : Row → Bool) (l : List Row) (k : Nat) (hk : k < l.length) (h : ∀ i (hi : i < l.length), i < k → f l[i] = false) (hf : f l[k] = true) : findR f l = k := by
  unfold findR
  have : l.findIdx? f = some k := List.findIdx?_eq_some_iff_getElem.2 ⟨hk, hf, fun j hj => by simp [h j (by omega) hj]⟩
  rw [this]
theorem findR_miss (f : Row → Bool) (l : List Row) (h : ∀ i (hi : i < l.length), f l[i] = false) : findR f l = -1 := by
  have : l.findIdx? f = none := List.findIdx?_eq_none_iff.2 fun x hx => by
    obtain ⟨i, hi, rfl⟩ := List.getElem_of_mem hx
    exact h i hi
  unfold findR
  rw [this]

set_option maxRecDepth 100000 in
set_option maxHeartbeats 2000000 in
theorem indexRows_any (fn : FuncId) (c : Value) (f : Row → Bool) (l : List Row) (p : Option Addr) (cap : Nat) (w : World) (hl : l.length ≤ maxLen) (hI : RowsAt w p l) (hent : ∀ (args : Array Value) (w : World), (callFunc fn args).run Try.prog w = .ok (.enter fn args) w)
    (hcl : ∀ wr, Below w.heap.size w wr → ∀ i (h : i < l.length), Calls Try.prog fn #[l[i].v, c] wr fun e w' => e = .returned (.bool (f l[i])) ∧ Below wr.heap.size wr w') :
    Calls Try.prog 29 #[.slice p l.length cap, .func (.func fn) #[] #[c]] w fun e w' => e = .returned (.int .i64 (findR f l)) ∧ Below w.heap.size w w' := by
  have HC := hide hcl
  unfold maxLen at hl
  clear hcl
  go_enter Try.func29, Try.ntmps29
  go_wp2
  go_loopw [8] (fun i wr => ∃ k : Nat, k ≤ l.length ∧ i = .int .i64 k ∧ Hid (∀ i (hi : i < l.length), i < k → f l[i] = false) ∧ Below w.heap.size w wr) (fun i _ => l.length - (intOf i).toNat)
  case atStart => exact ⟨0, Nat.zero_le _, rfl, fun i hi h => by omega, Below.refl _ _⟩
  case round =>
    obtain ⟨k, hk, rfl, hno, hbw⟩ := hrel
    by_cases hlt : k < l.length
    · obtain ⟨b, off, rfl, hc⟩ := (hI.later hbw) (by omega)
      have hck := hc k hlt
      have HCC := hide (fun _ : Unit => HC.out wr hbw k hlt)
      have HH := hide (findR_hit f l k hlt hno.out)
      clear hc
      cases hf : f l[k]
      · have HN : Hid (∀ i (hi : i < l.length), i < k + 1 → f l[i] = false) := by
          intro i hi h
          rcases Nat.lt_succ_iff_lt_or_eq.1 h with h1 | rfl
          · exact hno.out i hi h1
          · exact hf
        rw [hf] at HCC
        clear hf hno HH
        generalize l[k].v = x at *
        go_wp2_with fail
        refine (HCC.out ()).mono ?_
        rintro e w' ⟨rfl, hb2⟩
        go_wp2
        go_roundw
        case rel => exact ⟨k + 1, by omega, by go_num, HN, bthen hbw hb2⟩
        case measure => simp [intOf]; omega
      · rw [hf] at HCC
        have HV := hide (HH.out hf)
        clear hf hno HH
        generalize l[k].v = x at *
        go_wp2_with fail
        refine (HCC.out ()).mono ?_
        rintro e w' ⟨rfl, hb2⟩
        go_wp2
        go_ret
        exact ⟨ret_int HV.out.symm, bthen hbw hb2⟩
    · have HV := hide (findR_miss f l (fun i hi => hno.out i hi (by omega)))
      go_wp2
      go_ret
      exact ⟨ret_int HV.out.symm, hbw⟩

theorem containsRows_any (fn : FuncId) (c : Value) (f : Row → Bool) (l : List Row) (p : Option Addr) (cap : Nat) (w : World) (hl : l.length ≤ maxLen) (hI : RowsAt w p l) (hent : ∀ (args : Array Value) (w : World), (callFunc fn args).run Try.prog w = .ok (.enter fn args) w)
    (hcl : ∀ wr, Below w.heap.size w wr → ∀ i (h : i < l.length), Calls Try.prog fn #[l[i].v, c] wr fun e w' => e = .returned (.bool (f l[i])) ∧ Below wr.heap.size wr w') :
    Calls Try.prog 13 #[.slice p l.length cap, .func (.func fn) #[] #[c]] w fun e w' => e = .returned (.bool (l.any f)) ∧ Below w.heap.size w w' := by
  have HCC := hide (fun _ : Unit => indexRows_any fn c f l p cap w hl hI hent hcl)
  have HG := hide (findR_ge f l)
  clear hcl hent
  generalize findR f l = x at *
  go_enter Try.func13, Try.ntmps13
  go_wp2_with fail
  refine (HCC.out ()).mono ?_
  rintro e w' ⟨rfl, hb2⟩
  go_wp2
  go_ret
  exact ⟨ret_bool HG.out, hb2⟩

theorem enter41 (args : Array Value) (w : World) : (callFunc 18 args).run Try.prog w = .ok (.enter 18 args) w := by kernel_rfl
theorem enter42 (args : Array Value) (w : World) : (callFunc 19 args).run Try.prog w = .ok (.enter 19 args) w := by kernel_rfl

set_option maxHeartbeats 1000000 in
theorem holds1_any (v : List Bool) (p : Option Addr) (cap : Nat) (n : Int) (hv : v.length ≤ 200000) (hn : n ≠ 0) (h1 : -v.length ≤ n) (h2 : n ≤ v.length) (B : Nat) (w : World) (hB : w.cell? ⟨B, 0, none⟩ = some (.slice p v.length cap)) (hV : BoolsAt w p v) :
    Calls Try.prog 18 #[.int .i64 n, .pointer (some ⟨B, 0, none⟩)] w fun r w' => r = .returned (.bool (soN v n)) ∧ Below w.heap.size w w' := by
  obtain ⟨b, off, rfl, hc⟩ := hV (by omega)
  by_cases h : n < 0
  · have hi : (-n).toNat - 1 < v.length := by omega
    have c0 := hc ((-n).toNat - 1) hi
    have HX : Hid (soN v n = !v[(-n).toNat - 1]) := by
      have := soN_neg v (-n) (by omega)
      rw [Int.neg_neg, getD_bools hi] at this
      exact this
    clear hc hV
    generalize soN v n = R at *
    generalize v[(-n).toNat - 1] = x at *
    have hi0 : (0 : Int) ≤ -n - 1 := by omega
    have hi1 : -n - 1 < (v.length : Int) := by omega
    have hw1 := wrap_id (x := -n) (by omega) (by omega)
    have hw2 := wrap_id (x := -n - 1) (by omega) (by omega)
    go_enter Try.func18, Try.ntmps18
    go_wp2
    go_ret
    exact ⟨ret_bool HX.out.symm, Below.refl _ _⟩
  · have hi : n.toNat - 1 < v.length := by omega
    have c0 := hc (n.toNat - 1) hi
    have HX : Hid (soN v n = v[n.toNat - 1]) := by
      have := soN_pos v n (by omega)
      rw [getD_bools hi] at this
      exact this
    clear hc hV
    generalize soN v n = R at *
    generalize v[n.toNat - 1] = x at *
    have hi0 : (0 : Int) ≤ n - 1 := by omega
    have hi1 : n - 1 < (v.length : Int) := by omega
    go_enter Try.func18, Try.ntmps18
    go_wp2
    go_ret
    exact ⟨ret_bool HX.out.symm, Below.refl _ _⟩

theorem holds2_any (v : List Bool) (p : Option Addr) (cap : Nat) (r : Row) (hv : v.length ≤ 200000) (hr : r.ns.length ≤ maxLen) (hn : ∀ n ∈ r.ns, n ≠ 0 ∧ -v.length ≤ n ∧ n ≤ v.length) (B F : Nat) (w : World) (hB : w.cell? ⟨B, 0, none⟩ = some (.slice p v.length cap)) (hF : w.cell? ⟨F, 0, none⟩ = some (.func (.func 18) #[] #[.pointer (some ⟨B, 0, none⟩)])) (hV : BoolsAt w p v) (hI : IntsAt w r.at' r.ns) :
    Calls Try.prog 19 #[r.v, .pointer (some ⟨F, 0, none⟩)] w fun e w' => e = .returned (.bool (!r.ns.any (soN v))) ∧ Below w.heap.size w w' := by
  obtain ⟨ra, rn, rc⟩ := r
  unfold Row.v
  simp only at *
  have HCF := hide (containsFunc_any 18 (.pointer (some ⟨B, 0, none⟩)) (soN v) rn ra rc w hr hI enter41 (fun wr hb i hi => by
    obtain ⟨n1, n2, n3⟩ := hn _ (List.getElem_mem hi)
    exact holds1_any v p cap _ hv n1 n2 n3 B wr (cell_later hb hB) (hV.later hb)))
  clear hn hV hI
  go_enter Try.func19, Try.ntmps19
  go_wp2_with fail
  refine HCF.out.mono ?_
  rintro e w2 ⟨rfl, hb2⟩
  go_wp2
  go_ret
  exact ⟨rfl, hb2⟩

/-- What Holds says. -/
def hoE (vars : Int) (L : List (List Int)) (v : List Bool) : Int := if chkC vars L ≠ 0 then chkC vars L else if (v.length : Int) ≠ vars then 1 else 0
def hoB (vars : Int) (L : List (List Int)) (v : List Bool) : Bool := if hoE vars L v = 0 then holdsL v L else false

theorem row_zero {vars : Int} {ns : List Int} (h : rowE vars ns = 0) : ns.length ≤ 200 ∧ ∀ n ∈ ns, n ≠ 0 ∧ -vars ≤ n ∧ n ≤ vars := by
  unfold rowE at h
  split at h
  · cases h
  · split at h
    · cases h
    · rename_i h1 h2
      refine ⟨by omega, fun n hn => ?_⟩
      have : ns.any (noneC vars) = false := by simpa using h2
      rw [List.any_eq_false] at this
      have := this n hn
      simp [noneC] at this
      omega
theorem first_zero {vars : Int} {L : List (List Int)} (h : firstE vars L = 0) : ∀ ns ∈ L, rowE vars ns = 0 := by
  induction L with
  | nil => intro ns hn; simp at hn
  | cons a t ih =>
    unfold firstE at h
    by_cases h0 : rowE vars a = 0
    · rw [if_neg (by simpa using h0)] at h
      intro ns hn
      rcases List.mem_cons.1 hn with rfl | hn
      · exact h0
      · exact ih h ns hn
    · rw [if_pos h0] at h; exact absurd h h0
theorem chkC_zero {vars : Int} {L : List (List Int)} (h : chkC vars L = 0) : 0 ≤ vars ∧ vars ≤ 200000 ∧ L.length ≤ 800000 ∧ ∀ ns ∈ L, ns.length ≤ 200 ∧ ∀ n ∈ ns, n ≠ 0 ∧ -vars ≤ n ∧ n ≤ vars := by
  unfold chkC at h
  split at h
  · cases h
  · split at h
    · cases h
    · rename_i h1 h2
      have := btw_true.1 (by simpa using h1)
      exact ⟨this.1, this.2, by omega, fun ns hn => row_zero (first_zero h ns hn)⟩

theorem rows_hold (v : List Bool) (rs : List Row) : (!rs.any fun r => !r.ns.any (soN v)) = holdsL v (numsOf rs) := by
  unfold holdsL numsOf
  induction rs with
  | nil => rfl
  | cons r t ih => simp at ih; simp [ih]

set_option maxRecDepth 100000 in
set_option maxHeartbeats 4000000 in
theorem holds_any (vars : Int) (p : Option Addr) (cap : Nat) (rs : List Row) (hl : rs.length ≤ 8796093022208) (hin : ∀ r ∈ rs, r.ns.length ≤ maxLen) (v : List Bool) (q : Option Addr) (qc : Nat) (hvl : v.length ≤ maxLen) (w : World) (hC : ClAt w p rs) (hV : BoolsAt w q v) :
    Calls Try.prog 7 #[cval vars p rs.length cap, .slice q v.length qc] w fun e w' => e = .returned (.tuple #[.bool (hoB vars (numsOf rs) v), .int .i64 (hoE vars (numsOf rs) v)]) ∧ Below w.heap.size w w' := by
  have hB0 : Below w.heap.size w ((w.alloc (.cells #[.int .i64 vars, .slice p rs.length cap] 24)).alloc (.cells #[.slice q v.length qc] 25)) := bal (bal (Below.refl _ _) _) _
  have HCK := hide (checkC_any vars p cap rs (by omega) hin _ (hC.later hB0))
  have HC := hide hC
  have HV := hide hV
  have HIN := hide hin
  unfold maxLen at hvl
  clear hC hV hin
  by_cases hc : chkC vars (numsOf rs) = 0
  · obtain ⟨v0, v1, hln, hall⟩ := chkC_zero hc
    rw [numsOf_len] at hln
    have HALL : Hid (∀ r ∈ rs, r.ns.length ≤ 200 ∧ ∀ n ∈ r.ns, n ≠ 0 ∧ -vars ≤ n ∧ n ≤ vars) := fun r hr => hall r.ns (by unfold numsOf; exact List.mem_map.2 ⟨r, hr, rfl⟩)
    have HE : Hid (hoE vars (numsOf rs) v = if (v.length : Int) ≠ vars then 1 else 0) := by unfold hoE; rw [if_neg (by simpa using hc)]; rfl
    rw [hc] at HCK
    clear hc hall
    go_enter Try.func7, Try.ntmps7
    go_wp2_with fail
    refine HCK.out.mono ?_
    rintro e w1 ⟨rfl, hb1⟩
    have HB1 := hide (bthen hB0 hb1)
    have q0 := cell_later hb1 (a := ⟨w.heap.size, 0, none⟩) (v := .int .i64 vars) (by simp [go_sem])
    have q1 := cell_later hb1 (a := ⟨w.heap.size, 1, none⟩) (v := .slice p rs.length cap) (by simp [go_sem])
    have q2 := cell_later hb1 (a := ⟨w.heap.size + 1, 0, none⟩) (v := .slice q v.length qc) (by simp [go_sem])
    clear hb1 hB0 HCK
    by_cases hvv : (v.length : Int) = vars
    · have HE0 : Hid (hoE vars (numsOf rs) v = 0) := by rw [HE.out, if_neg (by simpa using hvv)]; rfl
      have HB0 : Hid (hoB vars (numsOf rs) v = holdsL v (numsOf rs)) := by unfold hoB; rw [if_pos HE0.out]; rfl
      subst hvv
      have hne : ((v.length : Int) != (v.length : Int)) = false := by simp
      have hbF : Below w1.heap.size w1 (w1.alloc (.cells #[.func (.func 18) #[] #[.pointer (some ⟨w.heap.size + 1, 0, none⟩)]] 49)) := bal (Below.refl _ _) _
      have a1 := cell_later hbF q1
      have HCR := hide (containsRows_any 19 (.pointer (some ⟨w1.heap.size, 0, none⟩)) (fun r => !r.ns.any (soN v)) rs p cap (w1.alloc (.cells #[.func (.func 18) #[] #[.pointer (some ⟨w.heap.size + 1, 0, none⟩)]] 49)) (by unfold maxLen; omega) (HC.out.rows.later (bthen HB1.out hbF)) enter42 (fun wr hb i hi => by
        have hm := List.getElem_mem hi
        have h3 := HALL.out rs[i] hm
        have hbb := bthen hbF hb
        exact holds2_any v q qc rs[i] (by omega) (HIN.out _ hm) h3.2 (w.heap.size + 1) w1.heap.size wr (cell_later hbb q2) (cell_later hb (by simp [go_sem])) (HV.out.later (bthen HB1.out hbb)) (HC.out.inn.later (bthen HB1.out hbb) _ hm)))
      have HRH := hide (rows_hold v rs)
      have HBF := hide hbF
      clear HE hbF
      go_wp2_with fail
      refine HCR.out.mono ?_
      rintro e w2 ⟨rfl, hb2⟩
      have HB2 := hide (bthen (bthen HB1.out HBF.out) hb2)
      clear hb2 HCR
      generalize (rs.any fun r => !r.ns.any (soN v)) = X at *
      go_wp2
      go_ret2
      exact ⟨by rw [HB0.out, HE0.out, ← HRH.out]; rfl, HB2.out⟩
    · have HE1 : Hid (hoE vars (numsOf rs) v = 1) := by rw [HE.out, if_pos (by simpa using hvv)]; rfl
      have HB0 : Hid (hoB vars (numsOf rs) v = false) := by unfold hoB; rw [if_neg (by rw [HE1.out]; decide)]; rfl
      have hne : ((v.length : Int) != vars) = true := by simpa using hvv
      clear HE hvv
      go_wp2
      go_ret2
      exact ⟨by rw [HB0.out, HE1.out]; rfl, HB1.out⟩
  · have hne : (chkC vars (numsOf rs) != 0) = true := by simpa using hc
    have HE : Hid (hoE vars (numsOf rs) v = chkC vars (numsOf rs)) := by unfold hoE; rw [if_pos hc]; rfl
    have HB : Hid (hoB vars (numsOf rs) v = false) := by unfold hoB; rw [if_neg (by rw [HE.out]; exact hc)]; rfl
    clear hc
    generalize chkC vars (numsOf rs) = R at *
    go_enter Try.func7, Try.ntmps7
    go_wp2_with fail
    refine HCK.out.mono ?_
    rintro e w1 ⟨rfl, hb1⟩
    have HB1 := hide (bthen hB0 hb1)
    clear hb1 hB0 HCK
    go_wp2
    go_ret2
    exact ⟨by rw [HB.out, HE.out]; rfl, HB1.out⟩

end Go.Proofs.Ytdlfjijfdibocaa
