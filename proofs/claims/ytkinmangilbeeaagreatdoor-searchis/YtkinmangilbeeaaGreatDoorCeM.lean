/- Clauses of gates: those of an And, of a root; do they fit. -/
import Derived.Test.YtkinmangilbeeaaGreatDoorPaM
namespace Go.Proofs.YtkinmangilbeeaaGreatDoor
open Go.RowKit Go.Maps Go.WideMaps
set_option maxRecDepth 100000

theorem numL_bd {x : Int} (h : 0 ≤ x) (h2 : x ≤ 10000000) : -10000000 ≤ numL x ∧ numL x ≤ 10000000 := by
  unfold numL
  split <;> omega

/-- What some lists of numbers are. -/
def numsOf (rs : List Row) : List (List Int) := rs.map Row.ns
theorem numsOf_len (rs : List Row) : (numsOf rs).length = rs.length := by simp [numsOf]
theorem numsOf_app (rs : List Row) (r : Row) : numsOf (rs ++ [r]) = numsOf rs ++ [r.ns] := by simp [numsOf]

theorem ints_two {w : World} (x y : Int) : IntsAt (w.alloc (.cells #[.int .i64 x, .int .i64 y] 3)) (some ⟨w.heap.size, 0, none⟩) [x, y] := fun _ => ⟨w.heap.size, 0, rfl, fun i hi => by
  match i, hi with
  | 0, _ => simp [go_sem]
  | 1, _ => simp [go_sem]⟩
theorem ints_three {w : World} (x y z : Int) : IntsAt (w.alloc (.cells #[.int .i64 x, .int .i64 y, .int .i64 z] 3)) (some ⟨w.heap.size, 0, none⟩) [x, y, z] := fun _ => ⟨w.heap.size, 0, rfl, fun i hi => by
  match i, hi with
  | 0, _ => simp [go_sem]
  | 1, _ => simp [go_sem]
  | 2, _ => simp [go_sem]⟩

theorem past_bal {base : Nat} {w w1 : World} (h : Below base w w1) (hb : base ≤ w1.heap.size) (o : Obj) : Below base w (w1.alloc o) := h.alloc hb o

/-- How many clauses the first roots take. -/
def cntR (rs : List Int) : Nat → Nat
  | 0 => 0
  | k + 1 => cntR rs k + (if rs.getD k 1 = 1 then 0 else 1)
theorem cntR_le (rs : List Int) (k : Nat) : cntR rs k ≤ k := by
  induction k with
  | zero => exact Nat.le_refl _
  | succ k ih => unfold cntR; split <;> omega
/-- Are the clauses within the limits? -/
def fitE (ins : Int) (n : Nat) (rs : List Int) : Int := if 800000 < 3 * n + cntR rs rs.length then 2 else if 200000 < ins + n then 3 else 0

end Go.Proofs.YtkinmangilbeeaaGreatDoor

namespace Go.Proofs.YtkinmangilbeeaaGreatDoor
open Go.RowKit Go.Maps Go.WideMaps
set_option maxRecDepth 100000

theorem andsC_len (ins : Int) (ps : List (Int × Int)) (k : Nat) (h : k ≤ ps.length) : (andsC ins ps k).length = 3 * k := by
  induction k with
  | zero => rfl
  | succ k ih => rw [andsC_succ (by omega), List.length_append, ih (by omega)]; simp [andC]; omega
theorem rootC_len (x : Int) : (rootC x).length = if x = 1 then 0 else 1 := by
  unfold rootC
  split
  · rfl
  · split <;> rfl
/-- The clauses of the first roots. -/
def rootsC (rs : List Int) (k : Nat) : List (List Int) := (rs.take k).flatMap rootC
theorem rootsC_succ (rs : List Int) (k : Nat) (h : k < rs.length) : rootsC rs (k + 1) = rootsC rs k ++ rootC rs[k] := by
  unfold rootsC
  rw [List.take_succ_eq_append_getElem h, List.flatMap_append]
  simp
theorem rootsC_len (rs : List Int) (k : Nat) (h : k ≤ rs.length) : (rootsC rs k).length = cntR rs k := by
  induction k with
  | zero => simp [rootsC, cntR]
  | succ k ih =>
    rw [rootsC_succ rs k (by omega), List.length_append, ih (by omega), rootC_len]
    show _ = cntR rs k + (if rs.getD k 1 = 1 then 0 else 1)
    simp [List.getD, List.getElem?_eq_getElem (show k < rs.length by omega)]
theorem cntR_mono (rs : List Int) {k n : Nat} (h : k ≤ n) : cntR rs k ≤ cntR rs n := by
  induction n with
  | zero => obtain rfl : k = 0 := by omega
            exact Nat.le_refl _
  | succ n ih =>
    by_cases e : k = n + 1
    · subst e; exact Nat.le_refl _
    · have := ih (by omega)
      have h2 : cntR rs (n + 1) = cntR rs n + (if rs.getD n 1 = 1 then 0 else 1) := rfl
      rw [h2]
      omega
theorem cnfC_all (ins : Int) (ps : List (Int × Int)) (rs : List Int) : cnfC ins ps rs = andsC ins ps ps.length ++ rootsC rs rs.length := by
  unfold cnfC rootsC
  rw [List.take_length]

/-- What Of says. -/
def ofE (ins : Int) (ps : List (Int × Int)) (rs : List Int) : Int :=
  if chkE ins ps ≠ 0 then chkE ins ps else if rs.any (noLit (2 * (1 + ins + ps.length))) = true then 5 else fitE ins ps.length rs
def ofV (e x : Int) : Int := if e = 0 then x else 0
def ofL (e : Int) (L : List (List Int)) : List (List Int) := if e = 0 then L else []

/-- Clauses in memory. -/
structure ClAt (w : World) (p : Option Addr) (rs : List Row) : Prop where
  rows : RowsAt w p rs
  inn : InAt w rs
theorem ClAt.later {w w1 : World} {p : Option Addr} {rs : List Row} (h : ClAt w p rs) (hb : Below w.heap.size w w1) : ClAt w1 p rs := ⟨h.rows.later hb, h.inn.later hb⟩
theorem clAt_nil (w : World) : ClAt w none [] := ⟨fun h => by simp at h, fun r hr => by simp at hr⟩
abbrev cval (vars : Int) (p : Option Addr) (len cap : Nat) : Value := .agg #[.int .i64 vars, .slice p len cap]

/-- What Of leaves. -/
def OfOut (w' : World) (e : Ending) (ins : Int) (ps : List (Int × Int)) (rs : List Int) : Prop := ∃ pv cv rws,
  e = .returned (.tuple #[cval (ofV (ofE ins ps rs) (ins + ps.length)) pv rws.length cv, .int .i64 (ofE ins ps rs)]) ∧ numsOf rws = ofL (ofE ins ps rs) (cnfC ins ps rs) ∧ ClAt w' pv rws
theorem ofOut_no {w' : World} {ins : Int} {ps : List (Int × Int)} {rs : List Int} {e : Int} (he : ofE ins ps rs = e) (hne : e ≠ 0) : OfOut w' (.returned (.tuple #[cval 0 none 0 0, .int .i64 e])) ins ps rs := by
  subst he
  refine ⟨none, 0, [], ?_, ?_, clAt_nil _⟩
  · unfold ofV; rw [if_neg hne]; rfl
  · unfold ofL; rw [if_neg hne]; rfl
theorem ofOut_ok {w' : World} {ins : Int} {ps : List (Int × Int)} {rs : List Int} {pv : Option Addr} {cv : Nat} {rws : List Row} (he : ofE ins ps rs = 0) (hn : numsOf rws = cnfC ins ps rs) (h : ClAt w' pv rws) : OfOut w' (.returned (.tuple #[cval (ins + ps.length) pv rws.length cv, .int .i64 0])) ins ps rs := by
  unfold OfOut
  rw [he]
  exact ⟨pv, cv, rws, rfl, hn, h⟩
theorem fit_zero {ins : Int} {n : Nat} {rs : List Int} (h : fitE ins n rs = 0) : 3 * n + cntR rs rs.length ≤ 800000 ∧ ins + n ≤ 200000 := by
  unfold fitE at h
  split at h
  · cases h
  · split at h
    · cases h
    · omega

theorem clAt_set {w : World} {p : Option Addr} {rws : List Row} {B i : Nat} {u : Value} (h : ClAt w p rws) (h1 : ∀ a, p = some a → a.block ≠ B) (h2 : ∀ r ∈ rws, ∀ a, r.at' = some a → a.block ≠ B) : ClAt (w.setCell ⟨B, i, none⟩ u) p rws :=
  ⟨fun h0 => by
    obtain ⟨b, off, e, hc⟩ := h.rows h0
    exact ⟨b, off, e, fun j hj => cell_set_far (hc j hj) (h1 ⟨b, off, none⟩ e)⟩, fun r hr => (h.inn r hr).set _ _ (fun a ha => h2 r hr a ha)⟩

/-- The maker, at its beginning. -/
theorem cm_zero {w : World} {vars : Int} {M : Nat} (c0 : w.cell? ⟨M, 0, none⟩ = some (.int .i64 vars)) (c1 : w.cell? ⟨M, 1, none⟩ = some (.slice none 0 0)) (f0 : w.frozen? ⟨M, 0, none⟩ = false) (f1 : w.frozen? ⟨M, 1, none⟩ = false) : Cm w M M (.slice none 0 0) vars [] :=
  ⟨c0, c1, f0, f1, World.ownsRow_nil _ _ _ _, fun r hr => by simp at hr, Nat.le_refl _, by simp [Value.ownBlock], fun r hr => by simp at hr⟩

end Go.Proofs.YtkinmangilbeeaaGreatDoor

namespace Go.Proofs.YtkinmangilbeeaaGreatDoor
open Go.RowKit Go.Maps Go.WideMaps
set_option maxRecDepth 100000

/-- Is a number none of the variables', with its sign or without? -/
def noneC (vars n : Int) : Bool := n == 0 || decide (n < -vars) || decide (vars < n)
/-- What is said of one clause. -/
def rowE (vars : Int) (ns : List Int) : Int := if 200 < ns.length then 2 else if ns.any (noneC vars) = true then 5 else 0
/-- What is said of the first clause of which something is. -/
def firstE (vars : Int) : List (List Int) → Int
  | [] => 0
  | ns :: t => if rowE vars ns ≠ 0 then rowE vars ns else firstE vars t
/-- What is said of clauses. -/
def chkC (vars : Int) (L : List (List Int)) : Int := if btw vars 0 200000 = false then 3 else if 800000 < L.length then 2 else firstE vars L

theorem enter58 (args : Array Value) (w : World) : (callFunc 17 args).run Tryz.prog w = .ok (.enter 17 args) w := by kernel_rfl

set_option maxHeartbeats 1000000 in
theorem check1_any (n vars : Int) (h0 : 0 ≤ vars) (h1 : vars ≤ 200000) (B : Nat) (w : World) (hB : w.cell? ⟨B, 0, none⟩ = some (.int .i64 vars)) :
    Calls Tryz.prog 17 #[.int .i64 n, .pointer (some ⟨B, 0, none⟩)] w fun r w' => r = .returned (.bool (noneC vars n)) ∧ Below w.heap.size w w' := by
  have HE : Hid (noneC vars n = (n == 0 || decide (n < -vars) || decide (vars < n))) := rfl
  generalize noneC vars n = R at *
  by_cases hz : n = 0
  · have HX : Hid (R = true) := by rw [HE.out]; simp [hz, Hid]
    subst hz
    go_enter Tryz.func17, Tryz.ntmps17
    go_wp2
    go_ret
    exact ⟨ret_bool HX.out.symm, Below.refl _ _⟩
  · have hz' : (n == 0) = false := by simpa using hz
    by_cases hl : n < -vars
    · have HX : Hid (R = true) := by rw [HE.out]; simp [hl, Hid]
      go_enter Tryz.func17, Tryz.ntmps17
      go_wp2
      go_ret
      exact ⟨ret_bool HX.out.symm, Below.refl _ _⟩
    · have HX : Hid (R = decide (vars < n)) := by rw [HE.out, hz']; simp [hl, Hid]
      go_enter Tryz.func17, Tryz.ntmps17
      go_wp2
      go_ret
      exact ⟨ret_bool HX.out.symm, Below.refl _ _⟩

theorem firstE_drop (vars : Int) (L : List (List Int)) (k : Nat) (h : k < L.length) : firstE vars (L.drop k) = if rowE vars L[k] ≠ 0 then rowE vars L[k] else firstE vars (L.drop (k + 1)) := by
  rw [List.drop_eq_getElem_cons h]
  rfl

set_option maxRecDepth 100000 in
set_option maxHeartbeats 4000000 in
theorem checkC_any (vars : Int) (p : Option Addr) (cap : Nat) (rs : List Row) (hl : rs.length ≤ 100000000000000) (hin : ∀ r ∈ rs, r.ns.length ≤ maxLen) (w : World) (hC : ClAt w p rs) :
    Calls Tryz.prog 8 #[cval vars p rs.length cap] w fun e w' => e = .returned (.int .i64 (chkC vars (numsOf rs))) ∧ Below w.heap.size w w' := by
  have hB0 : Below w.heap.size w (w.alloc (.cells #[.int .i64 vars, .slice p rs.length cap] 24)) := bal (Below.refl _ _) _
  have hnl := numsOf_len rs
  have HE : Hid (chkC vars (numsOf rs) = if btw vars 0 200000 = false then 3 else if 800000 < rs.length then 2 else firstE vars (numsOf rs)) := by unfold chkC; rw [hnl]; rfl
  have HC := hide (hC.later hB0)
  have HIN := hide hin
  clear hC hin
  generalize chkC vars (numsOf rs) = R at *
  by_cases hv : 0 ≤ vars
  · by_cases hv2 : vars ≤ 200000
    · have hbt : btw vars 0 200000 = true := btw_true.2 ⟨hv, hv2⟩
      rw [hbt, if_neg (by decide)] at HE
      have hv' : ¬ vars < 0 := by omega
      have hv2' : ¬ 200000 < vars := by omega
      by_cases hm : 800000 < rs.length
      · have HX : Hid (R = 2) := by rw [HE.out, if_pos hm]; rfl
        have hm' : (800000 : Int) < (rs.length : Int) := by omega
        go_enter Tryz.func8, Tryz.ntmps8
        go_wp2
        go_ret
        exact ⟨ret_int HX.out.symm, hB0⟩
      · rw [if_neg hm] at HE
        have hm' : ¬ (800000 : Int) < (rs.length : Int) := by omega
        have b0 : (w.alloc (.cells #[.int .i64 vars, .slice p rs.length cap] 24)).cell? ⟨w.heap.size, 0, none⟩ = some (.int .i64 vars) := by simp [go_sem]
        have HB0 := hide hB0
        clear hB0 hbt
        go_enter Tryz.func8, Tryz.ntmps8
        go_wp2
        generalize w.alloc (.cells #[.int .i64 vars, .slice p rs.length cap] 24) = w0 at *
        go_loopw [22] (fun i wr => ∃ k : Nat, k ≤ rs.length ∧ i = .int .i64 k ∧ Hid (firstE vars (numsOf rs) = firstE vars ((numsOf rs).drop k)) ∧ Below w0.heap.size w0 wr) (fun i _ => rs.length - (intOf i).toNat)
        case atStart => exact ⟨0, Nat.zero_le _, rfl, by simp [Hid], Below.refl _ _⟩
        case round =>
          obtain ⟨k, hk, rfl, hf, hbw⟩ := hrel
          have b1 := cell_later hbw b0
          have HBW := hide (bthen HB0.out hbw)
          by_cases hlt : k < rs.length
          · obtain ⟨b, off, rfl, hc⟩ := (HC.out.rows.later hbw) (by omega)
            have hck := hc k hlt
            have hki : (k : Int) < (rs.length : Int) := by omega
            have hrk : (numsOf rs)[k]'(by omega) = rs[k].ns := by simp [numsOf]
            have HD := hide (firstE_drop vars (numsOf rs) k (by omega))
            rw [hrk] at HD
            have HIR := hide ((HC.out.inn.later hbw) rs[k] (List.getElem_mem hlt))
            have hnk := HIN.out rs[k] (List.getElem_mem hlt)
            unfold maxLen at hnk
            clear hc hrk
            generalize rs[k] = r at *
            obtain ⟨ra, rn, rc⟩ := r
            unfold Row.v at hck
            simp only at *
            by_cases h2 : 200 < rn.length
            · have HX : Hid (R = 2) := by
                rw [HE.out, hf.out, HD.out]
                have : rowE vars rn = 2 := by unfold rowE; rw [if_pos h2]
                rw [this]; rfl
              have h2' : (200 : Int) < (rn.length : Int) := by omega
              clear HE HD hf
              go_wp2
              go_ret
              exact ⟨ret_int HX.out.symm, HBW.out⟩
            · have h2' : ¬ (200 : Int) < (rn.length : Int) := by omega
              have HRE : Hid (rowE vars rn = if rn.any (noneC vars) = true then 5 else 0) := by unfold rowE; rw [if_neg h2]; rfl
              have HCF := hide (containsFunc_any 17 (.pointer (some ⟨w.heap.size, 0, none⟩)) (noneC vars) rn ra rc wr (by unfold maxLen; omega) HIR.out enter58 (fun wq hb i hi => check1_any _ _ hv hv2 _ _ (cell_later hb b1)))
              cases hany : rn.any (noneC vars)
              · rw [hany] at HCF HRE
                have HNX : Hid (firstE vars (numsOf rs) = firstE vars ((numsOf rs).drop (k + 1))) := by
                  rw [hf.out, HD.out, HRE.out]; rfl
                clear HD hf hany HRE
                go_wp2_with fail
                refine HCF.out.mono ?_
                rintro e w2 ⟨rfl, hb2⟩
                have HB2 := hide (bthen hbw hb2)
                clear hb2
                go_wp2
                go_roundw
                case rel => exact ⟨k + 1, by omega, by go_num, HNX, HB2.out⟩
                case measure => simp [intOf]; omega
              · rw [hany] at HCF HRE
                have HX : Hid (R = 5) := by rw [HE.out, hf.out, HD.out, HRE.out]; rfl
                clear HD hf hany HRE HE
                go_wp2_with fail
                refine HCF.out.mono ?_
                rintro e w2 ⟨rfl, hb2⟩
                have HB2 := hide (bthen HBW.out hb2)
                clear hb2
                go_wp2
                go_ret
                exact ⟨ret_int HX.out.symm, HB2.out⟩
          · have HX : Hid (R = 0) := by
              rw [HE.out, hf.out, List.drop_of_length_le (by omega)]; rfl
            clear HE hf
            go_wp2
            go_ret
            exact ⟨ret_int HX.out.symm, HBW.out⟩
    · have hbt : btw vars 0 200000 = false := btw_false.2 (by omega)
      have HX : Hid (R = 3) := by rw [HE.out, if_pos hbt]; rfl
      have hv' : ¬ vars < 0 := by omega
      have hv2' : 200000 < vars := by omega
      go_enter Tryz.func8, Tryz.ntmps8
      go_wp2
      go_ret
      exact ⟨ret_int HX.out.symm, hB0⟩
  · have hbt : btw vars 0 200000 = false := btw_false.2 (by omega)
    have HX : Hid (R = 3) := by rw [HE.out, if_pos hbt]; rfl
    have hv' : vars < 0 := by omega
    go_enter Tryz.func8, Tryz.ntmps8
    go_wp2
    go_ret
    exact ⟨ret_int HX.out.symm, hB0⟩

end Go.Proofs.YtkinmangilbeeaaGreatDoor
