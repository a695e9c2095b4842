/- Gates: the plain text's small calls. -/
import Derived.Test.YtabnimgpednhjabGbM
import Derived.WideKeyPair
import Derived.Maps.OwnOps
import Derived.Maps.OwnSet
namespace Go.Proofs.Ytabnimgpednhjab
open Go.RowKit Go.Maps Go.WideMaps
set_option maxRecDepth 100000

/-- A number of 64 bits. -/
def Wf (x : Int) : Prop := -9223372036854775808 ≤ x ∧ x ≤ 9223372036854775807
theorem Wf.lit {x : Int} (h : Wf x) : (Lit.int .i64 x).wf = true := WalkArith.wf_i64 h
theorem arr : ArrKey Try.prog 69 3 2 := ⟨Try.underlying69, by kernel_rfl, by kernel_rfl, by kernel_rfl⟩
theorem law55 : Keyed Try.prog 69 := Keyed.of_law arr.law
theorem sized : ∃ m, Try.prog.types.size = m + 1 := ⟨162, by kernel_rfl⟩
/-- What a pair reads as, as a key. -/
def keyL (a b : Int) : Lit := .string (keyBytes [.int .i64 a, .int .i64 b])
theorem key55 {a b : Int} (ha : Wf a) (hb : Wf b) : keyOf Try.prog 69 (arr2 a b) = some (keyL a b) := keyOf_pair arr Try.underlying3 sized ha.lit hb.lit
theorem keyL_inj {a b c d : Int} (ha : Wf a) (hb : Wf b) (hc : Wf c) (hd : Wf d) : keyL a b = keyL c d ↔ (a, b) = (c, d) := by
  constructor
  · intro h
    have h1 := key55 ha hb
    rw [h] at h1
    have := law55.inj h1 (key55 hc hd)
    simp at this
    simp [this]
  · intro h
    cases h
    rfl

def eqP (a b c d : Int) : Bool := decide ((a, b) = (c, d))
theorem run_equal55 {a b c d : Int} (ha : Wf a) (hb : Wf b) (hc : Wf c) (hd : Wf d) (w : World) : (Op.equal 69 (arr2 a b) (arr2 c d)).run Try.prog w = .ok (eqP a b c d) w := by
  obtain ⟨r, h1, h2⟩ := run_equal_deep w (m := 2) (by omega) (arr.at 0) arr.wide (key55 ha hb) (key55 hc hd)
  rw [h1]
  congr 1
  rw [Bool.eq_iff_iff, h2, keyL_inj ha hb hc hd]
  simp [eqP]
theorem run_eql55 {a b c d : Int} (ha : Wf a) (hb : Wf b) (hc : Wf c) (hd : Wf d) (w : World) : (binOp .eql 69 (arr2 a b) (arr2 c d)).run Try.prog w = .ok (.bool (eqP a b c d)) w := by
  simp only [binOp]
  simp [run_equal55 ha hb hc hd w]
theorem run_neq55 {a b c d : Int} (ha : Wf a) (hb : Wf b) (hc : Wf c) (hd : Wf d) (w : World) : (binOp .neq 69 (arr2 a b) (arr2 c d)).run Try.prog w = .ok (.bool (!eqP a b c d)) w := by
  simp only [binOp]
  simp [run_equal55 ha hb hc hd w]
def WfP (ps : List (Int × Int)) : Prop := ∀ (i : Nat) (h : i < ps.length), Wf ps[i].1 ∧ Wf ps[i].2

/-- The place of a pair among the first ones; -1: there is none. -/
def andAt (ps : List (Int × Int)) (k : Nat) (x : Int × Int) : Int := match (ps.take k).findIdx? (· == x) with | some i => (i : Int) | none => -1

theorem andAt_hit (ps : List (Int × Int)) (n k : Nat) (x : Int × Int) (hk : k < ps.length) (hn : k < n) (h : ∀ i (hi : i < ps.length), i < k → ps[i] ≠ x) (hx : ps[k] = x) : andAt ps n x = k := by
  have : (ps.take n).findIdx? (· == x) = some k := by
    rw [List.findIdx?_eq_some_iff_getElem]
    refine ⟨by rw [List.length_take]; omega, by simp [hx], fun j hj => ?_⟩
    simp only [List.getElem_take]
    simpa using h j (by omega) hj
  unfold andAt
  rw [this]

theorem andAt_miss (ps : List (Int × Int)) (n : Nat) (x : Int × Int) (h : ∀ i (hi : i < ps.length), i < n → ps[i] ≠ x) : andAt ps n x = -1 := by
  have : (ps.take n).findIdx? (· == x) = none := by
    rw [List.findIdx?_eq_none_iff]
    intro y hy
    obtain ⟨i, hi, rfl⟩ := List.getElem_of_mem hy
    simp only [List.getElem_take]
    rw [List.length_take] at hi
    simpa using h i (by omega) (by omega)
  unfold andAt
  rw [this]

set_option maxHeartbeats 2000000 in
theorem andAt_any (ins : Int) (p : Option Addr) (cap : Nat) (ps : List (Int × Int)) (hl : ps.length ≤ 1000001) (hwf : WfP ps) (n : Nat) (hn : n ≤ ps.length) (a b : Int) (ha : Wf a) (hb : Wf b) (w : World) (hP : PairsAt w p ps) :
    Calls Try.prog 35 #[gval ins p ps.length cap, .int .i64 n, arr2 a b] w fun e w' => e = .returned (.int .i64 (andAt ps n (a, b))) ∧ Below w.heap.size w w' := by
  have HWF := hide hwf
  have HAB := hide (And.intro ha hb)
  clear hwf ha hb
  have hB0 : Below w.heap.size w ((w.alloc (.cells #[.int .i64 ins, .slice p ps.length cap] 24)).alloc (.cells #[.int .i64 a, .int .i64 b] 69)) := bal (bal (Below.refl _ _) _) _
  go_enter Try.func35, Try.ntmps35
  go_wp2
  go_loopw [7] (fun i wr => ∃ k : Nat, k ≤ n ∧ i = .int .i64 k ∧ Hid (∀ i (hi : i < ps.length), i < k → ps[i] ≠ (a, b)) ∧ Below w.heap.size w wr ∧ wr.cell? ⟨w.heap.size, 1, none⟩ = some (.slice p ps.length cap) ∧ wr.cell? ⟨w.heap.size + 1, 0, none⟩ = some (.int .i64 a) ∧ wr.cell? ⟨w.heap.size + 1, 1, none⟩ = some (.int .i64 b)) (fun i _ => n - (intOf i).toNat)
  case atStart => exact ⟨0, Nat.zero_le _, rfl, fun i hi h => by omega, hB0, by simp [go_sem], by simp [go_sem], by simp [go_sem]⟩
  case round =>
    obtain ⟨k, hk, rfl, hno, hbw, q1, r0, r1⟩ := hrel
    by_cases hlt : k < n
    · have hkl : k < ps.length := by omega
      obtain ⟨bb, off, rfl, hc⟩ := (hP.later hbw) (by omega)
      obtain ⟨c0, c1⟩ := hc k hkl
      have HH := hide (andAt_hit ps n k (a, b) hkl hlt hno.out)
      have HN : Hid (ps[k] ≠ (a, b) → ∀ i (hi : i < ps.length), i < k + 1 → ps[i] ≠ (a, b)) := by
        intro hne i hi h
        rcases Nat.lt_succ_iff_lt_or_eq.1 h with h1 | rfl
        · exact hno.out i hi h1
        · exact hne
      have hki : (k : Int) < (ps.length : Int) := by omega
      have hwk := HWF.out k hkl
      have he := @run_eql55 ps[k].1 ps[k].2 a b hwk.1 hwk.2 HAB.out.1 HAB.out.2
      clear hc hno hwk
      generalize ps[k] = pr at *
      obtain ⟨s, y⟩ := pr
      simp only at *
      cases hx : eqP s y a b
      · rw [hx] at he
        have HNN := hide (HN.out (by simpa [eqP] using hx))
        clear hx HH HN
        go_wp2
        go_quiet (fail)
        go_wp2
        go_roundw
        case rel => exact ⟨k + 1, by omega, by go_num, HNN, bdn hbw _, q1, r0, r1⟩
        case measure => simp [intOf]; omega
      · rw [hx] at he
        have HV := hide (HH.out (by simpa [eqP] using hx))
        clear hx HH HN
        go_wp2
        go_quiet (fail)
        go_wp2
        go_ret
        exact ⟨ret_int HV.out.symm, bdn hbw _⟩
    · have HV : Hid (andAt ps n (a, b) = -1) := andAt_miss ps n (a, b) (fun i hi h => hno.out i hi (by omega))
      go_wp2
      go_ret
      exact ⟨ret_int HV.out.symm, hbw⟩

def isLit (e x : Int) : Bool := !noLit e x

theorem isLit_any (ins : Int) (p : Option Addr) (len cap : Nat) (x : Int) (h0 : 0 ≤ ins) (h1 : ins ≤ 1000) (h2 : len ≤ 1000001) (w : World) :
    Calls Try.prog 11 #[gval ins p len cap, .int .i64 x] w fun r w' => r = .returned (.bool (isLit (2 * (1 + ins + len)) x)) ∧ Below w.heap.size w w' := by
  have HE : Hid (btw x 0 (2 * (1 + ins + len) - 1) = isLit (2 * (1 + ins + len)) x) := by
    rw [Bool.eq_iff_iff, btw_true]; simp [isLit, noLit, Hid]; omega
  generalize isLit (2 * (1 + ins + len)) x = R at *
  go_enter Try.func11, Try.ntmps11
  go_wp2_with (go_at_call 34; refine (between_any _ _ _ _).mono ?_; rintro e w' ⟨rfl, rfl⟩)
  go_ret
  exact ⟨ret_bool HE.out, bal (Below.refl _ _) _⟩

set_option maxHeartbeats 2000000 in
theorem areLits_any (ins : Int) (p : Option Addr) (len cap : Nat) (h0 : 0 ≤ ins) (h1 : ins ≤ 1000) (h2 : len ≤ 1000001) (l : List Int) (q : Option Addr) (qc : Nat) (hl : l.length ≤ maxLen) (w : World) (hI : IntsAt w q l) :
    Calls Try.prog 17 #[gval ins p len cap, .slice q l.length qc] w fun r w' => r = .returned (.bool (l.all (isLit (2 * (1 + ins + len))))) ∧ Below w.heap.size w w' := by
  have hB0 : Below w.heap.size w (w.alloc (.cells #[.int .i64 ins, .slice p len cap] 24)) := bal (Below.refl _ _) _
  unfold maxLen at hl
  go_enter Try.func17, Try.ntmps17
  go_wp2
  go_loopw [5] (fun i wr => ∃ k : Nat, k ≤ l.length ∧ i = .int .i64 k ∧ Hid (∀ i (hi : i < l.length), i < k → isLit (2 * (1 + ins + len)) l[i] = true) ∧ Below w.heap.size w wr ∧ wr.cell? ⟨w.heap.size, 0, none⟩ = some (.int .i64 ins) ∧ wr.cell? ⟨w.heap.size, 1, none⟩ = some (.slice p len cap)) (fun i _ => l.length - (intOf i).toNat)
  case atStart => exact ⟨0, Nat.zero_le _, rfl, fun i hi h => by omega, hB0, by simp [go_sem], by simp [go_sem]⟩
  case round =>
    obtain ⟨k, hk, rfl, hno, hbw, q0, q1⟩ := hrel
    by_cases hlt : k < l.length
    · obtain ⟨bb, off, rfl, hc⟩ := (hI.later hbw) (by omega)
      have c0 := hc k hlt
      have hki : (k : Int) < (l.length : Int) := by omega
      have HB := hide hbw
      cases hx : isLit (2 * (1 + ins + len)) l[k]
      · have HX : Hid (l.all (isLit (2 * (1 + ins + len))) = false) := by
          rw [Bool.eq_false_iff]; intro h; rw [List.all_eq_true] at h; rw [h _ (List.getElem_mem hlt)] at hx; cases hx
        have HX2 := hide hx
        clear hc hx hno hbw hB0
        generalize l[k] = x at *
        go_wp2
        go_region_held3 (fun w' => w'.cell? ⟨w.heap.size, 0, none⟩ = some (.int .i64 ins) ∧ w'.cell? ⟨w.heap.size, 1, none⟩ = some (.slice p len cap) ∧ w'.cell? ⟨bb, off + k, none⟩ = some (.int .i64 x))
          (first | exact ⟨q0, q1, c0⟩ | exact ⟨cell_later hb1 q0, cell_later hb1 q1, cell_later hb1 c0⟩ | go_keep)
          ((go_at_call 11; refine (isLit_any _ _ _ _ _ h0 h1 h2 _).mono ?_; rintro e w1 ⟨rfl, hb1⟩; rw [HX2.out]))
        have HB2 := hide (bthen HB.out.drew hb1)
        clear hb1
        go_wp2
        go_ret
        exact ⟨ret_bool HX.out.symm, HB2.out⟩
      · have HN : Hid (∀ i (hi : i < l.length), i < k + 1 → isLit (2 * (1 + ins + len)) l[i] = true) := by
          intro i hi h
          rcases Nat.lt_succ_iff_lt_or_eq.1 h with h1 | rfl
          · exact hno.out i hi h1
          · exact hx
        have HX2 := hide hx
        clear hc hx hno hbw hB0
        generalize l[k] = x at *
        go_wp2
        go_region_held3 (fun w' => w'.cell? ⟨w.heap.size, 0, none⟩ = some (.int .i64 ins) ∧ w'.cell? ⟨w.heap.size, 1, none⟩ = some (.slice p len cap) ∧ w'.cell? ⟨bb, off + k, none⟩ = some (.int .i64 x))
          (first | exact ⟨q0, q1, c0⟩ | exact ⟨cell_later hb1 q0, cell_later hb1 q1, cell_later hb1 c0⟩ | go_keep)
          ((go_at_call 11; refine (isLit_any _ _ _ _ _ h0 h1 h2 _).mono ?_; rintro e w1 ⟨rfl, hb1⟩; rw [HX2.out]))
        have HB2 := hide (bthen HB.out.drew hb1)
        have q0' := cell_later hb1 (show wr.drew.cell? _ = _ from q0)
        have q1' := cell_later hb1 (show wr.drew.cell? _ = _ from q1)
        clear hb1
        go_wp2
        go_roundw
        case rel => exact ⟨k + 1, by omega, by go_num, HN, HB2.out, q0', q1'⟩
        case measure => simp [intOf]; omega
    · have HV : Hid (l.all (isLit (2 * (1 + ins + len))) = true) := by
        rw [List.all_eq_true]
        intro x hx
        obtain ⟨i, hi, rfl⟩ := List.getElem_of_mem hx
        exact hno.out i hi (by omega)
      go_wp2
      go_ret
      exact ⟨ret_bool HV.out.symm, hbw⟩

/-- What a literal is. -/
def litV (v : List Bool) (x : Int) : Bool := v.getD (x / 2).toNat false != odd x

theorem getD_bools {v : List Bool} {i : Nat} (h : i < v.length) : v.getD i false = v[i] := by simp [List.getD, List.getElem?_eq_getElem h]

set_option maxHeartbeats 1000000 in
theorem tells_any (v : List Bool) (p : Option Addr) (cap : Nat) (x : Int) (h0 : 0 ≤ x) (hx : x < 2 * v.length) (hl : v.length ≤ 10000000) (w : World) (hV : BoolsAt w p v) :
    Calls Try.prog 37 #[.slice p v.length cap, .int .i64 x] w fun r w' => r = .returned (.bool (litV v x)) ∧ ∃ n, w' = w.drewN n := by
  have hk : (x / 2).toNat < v.length := by omega
  have HE : Hid (litV v x = (v[(x / 2).toNat] != odd x)) := by unfold litV; rw [getD_bools hk]; rfl
  obtain ⟨b, off, rfl, hc⟩ := hV (by omega)
  have c0 := hc _ hk
  clear hc hV
  generalize v[(x / 2).toNat] = y at *
  generalize litV v x = R at *
  have h3 : 0 ≤ x / 2 := by omega
  have h4 : x / 2 < (v.length : Int) := by omega
  go_enter Try.func37, Try.ntmps37
  go_wp2
  go_quiet (first | (go_at_call 62; exact Calls.quiet_of_same (node_any _ h0 (by omega) _)) | (go_at_call 63; exact Calls.quiet_of_same (isTurned_any _ h0 (by omega) _)))
  go_wp2
  go_ret
  exact ⟨ret_bool HE.out.symm, _, rfl⟩

set_option maxHeartbeats 1000000 in
theorem litOf_any (v : List Bool) (p : Option Addr) (cap : Nat) (x : Int) (h0 : 0 ≤ x) (hx : x < 2 * v.length) (hl : v.length ≤ 10000000) (w : World) (hV : BoolsAt w p v) :
    Calls Try.prog 19 #[.slice p v.length cap, .int .i64 x] w fun r w' => r = .returned (.bool (litV v x)) ∧ w' = w := by
  have hk : (x / 2).toNat < v.length := by omega
  have HE : Hid (litV v x = (v[(x / 2).toNat] != odd x)) := by unfold litV; rw [getD_bools hk]; rfl
  obtain ⟨b, off, rfl, hc⟩ := hV (by omega)
  have c0 := hc _ hk
  clear hc hV
  generalize v[(x / 2).toNat] = y at *
  generalize litV v x = R at *
  have h3 : 0 ≤ x / 2 := by omega
  have h4 : x / 2 < (v.length : Int) := by omega
  by_cases ho : x % 2 = 1
  · have HX : Hid (R = !y) := by rw [HE.out, show odd x = true from by simp [odd, ho]]; cases y <;> rfl
    go_enter Try.func19, Try.ntmps19
    go_wp2
    go_ret
    exact ⟨ret_bool HX.out.symm, rfl⟩
  · have HX : Hid (R = y) := by rw [HE.out, show odd x = false from by simp [odd, ho]]; cases y <;> rfl
    go_enter Try.func19, Try.ntmps19
    go_wp2
    go_ret
    exact ⟨ret_bool HX.out.symm, rfl⟩

set_option maxHeartbeats 1000000 in
theorem sameBools_any (u v : List Bool) (p q : Option Addr) (pc qc : Nat) (hl : u.length ≤ maxLen) (w : World) (hU : BoolsAt w p u) (hV : BoolsAt w q v) :
    Calls Try.prog 20 #[.slice p u.length pc, .slice q v.length qc] w fun r w' => r = .returned (.bool (decide (u = v))) ∧ Below w.heap.size w w' := by
  unfold maxLen at hl
  by_cases hn : u.length = v.length
  · have hn' : (u.length : Int) = (v.length : Int) := by omega
    have HN := hide hn
    rw [show v.length = u.length from hn.symm]
    clear hn hn'
    go_enter Try.func20, Try.ntmps20
    go_wp2
    go_loopw [5] (fun i wr => ∃ k : Nat, k ≤ u.length ∧ i = .int .i64 k ∧ Hid (∀ i (hi : i < u.length) (hj : i < v.length), i < k → u[i] = v[i]) ∧ Below w.heap.size w wr) (fun i _ => u.length - (intOf i).toNat)
    case atStart => exact ⟨0, Nat.zero_le _, rfl, fun i hi hj h => by omega, Below.refl _ _⟩
    case round =>
      obtain ⟨k, hk, rfl, hno, hbw⟩ := hrel
      by_cases hlt : k < u.length
      · have hlt2 : k < v.length := by rw [← HN.out]; exact hlt
        obtain ⟨b1, o1, rfl, hc1⟩ := (hU.later hbw) (by omega)
        obtain ⟨b2, o2, rfl, hc2⟩ := (hV.later hbw) (by omega)
        have c0 := hc1 k hlt
        have d0 := hc2 k hlt2
        have hki : (k : Int) < (u.length : Int) := by omega
        have HNN : Hid (u[k] = v[k] → ∀ i (hi : i < u.length) (hj : i < v.length), i < k + 1 → u[i] = v[i]) := by
          intro he i hi hj h
          rcases Nat.lt_succ_iff_lt_or_eq.1 h with h1 | rfl
          · exact hno.out i hi hj h1
          · exact he
        have HX : Hid (u[k] ≠ v[k] → decide (u = v) = false) := by
          intro hne
          rw [decide_eq_false_iff_not]
          intro e
          subst e
          exact hne rfl
        clear hc1 hc2 hno
        generalize u[k] = x at *
        generalize v[k] = y at *
        by_cases hxy : x = y
        · subst hxy
          have HK := hide (HNN.out rfl)
          have hxx : (x != x) = false := by simp
          clear HNN HX
          go_wp2
          go_quiet (fail)
          go_wp2
          go_roundw
          case rel => exact ⟨k + 1, by omega, by go_num, HK, bdn hbw _⟩
          case measure => simp [intOf]; omega
        · have HK := hide (HX.out hxy)
          have hxx : (x == y) = false := by simpa using hxy
          clear HNN HX hxy
          go_wp2
          go_quiet (fail)
          go_wp2
          go_ret
          exact ⟨ret_bool HK.out.symm, bdn hbw _⟩
      · have HK : Hid (decide (u = v) = true) := by
          rw [Hid, decide_eq_true_iff]
          exact List.ext_getElem HN.out fun i hi hj => hno.out i hi hj (by omega)
        go_wp2
        go_ret
        exact ⟨ret_bool HK.out.symm, hbw⟩
  · have hn' : ¬ (u.length : Int) = (v.length : Int) := by omega
    have HK : Hid (decide (u = v) = false) := by
      rw [Hid, decide_eq_false_iff_not]; intro e; exact hn (by rw [e])
    have hx : ((u.length : Int) != (v.length : Int)) = true := by simpa using hn'
    clear hn hn'
    go_enter Try.func20, Try.ntmps20
    go_wp2
    go_ret
    exact ⟨ret_bool HK.out.symm, Below.refl _ _⟩

end Go.Proofs.Ytabnimgpednhjab
