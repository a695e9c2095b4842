/- Gates: the plain text's small calls. -/
import Derived.Test.YtjhkecnnhddhbaaGreatDoorGb
import Derived.WideKeyPair
import Derived.Maps.OwnOps
import Derived.Maps.OwnSet
namespace Go.Proofs.YtjhkecnnhddhbaaGreatDoor
open Go.RowKit Go.Maps Go.WideMaps
set_option maxRecDepth 100000
set_option maxRecDepth 100000

/-- A number of 64 bits. -/
def Wf (x : Int) : Prop := -9223372036854775808 ≤ x ∧ x ≤ 9223372036854775807
theorem Wf.lit {x : Int} (h : Wf x) : (Lit.int .i64 x).wf = true := WalkArith.wf_i64 h
theorem arr : ArrKey Tryz.prog 75 3 2 := ⟨Tryz.underlying75, by kernel_rfl, by kernel_rfl, by kernel_rfl⟩
theorem law55 : Keyed Tryz.prog 75 := Keyed.of_law arr.law
theorem sized : ∃ m, Tryz.prog.types.size = m + 1 := ⟨360, by kernel_rfl⟩
/-- What a pair reads as, as a key. -/
def keyL (a b : Int) : Lit := .string (keyBytes [.int .i64 a, .int .i64 b])
theorem key55 {a b : Int} (ha : Wf a) (hb : Wf b) : keyOf Tryz.prog 75 (arr2 a b) = some (keyL a b) := keyOf_pair arr Tryz.underlying3 sized ha.lit hb.lit
theorem keyL_inj {a b c d : Int} (ha : Wf a) (hb : Wf b) (hc : Wf c) (hd : Wf d) : keyL a b = keyL c d ↔ (a, b) = (c, d) := by
  constructor
  · intro h
    have h1 := key55 ha hb
    rw [h] at h1
    have := law55.inj h1 (key55 hc hd)
    simp at this
    simp [this]
  · intro h
    cases h
    rfl

def eqP (a b c d : Int) : Bool := decide ((a, b) = (c, d))
theorem run_equal55 {a b c d : Int} (ha : Wf a) (hb : Wf b) (hc : Wf c) (hd : Wf d) (w : World) : (Op.equal 75 (arr2 a b) (arr2 c d)).run Tryz.prog w = .ok (eqP a b c d) w := by
  obtain ⟨r, h1, h2⟩ := run_equal_deep w (m := 2) (by omega) (arr.at 0) arr.wide (key55 ha hb) (key55 hc hd)
  rw [h1]
  congr 1
  rw [Bool.eq_iff_iff, h2, keyL_inj ha hb hc hd]
  simp [eqP]
theorem run_eql55 {a b c d : Int} (ha : Wf a) (hb : Wf b) (hc : Wf c) (hd : Wf d) (w : World) : (binOp .eql 75 (arr2 a b) (arr2 c d)).run Tryz.prog w = .ok (.bool (eqP a b c d)) w := by
  simp only [binOp]
  simp [run_equal55 ha hb hc hd w]
theorem run_neq55 {a b c d : Int} (ha : Wf a) (hb : Wf b) (hc : Wf c) (hd : Wf d) (w : World) : (binOp .neq 75 (arr2 a b) (arr2 c d)).run Tryz.prog w = .ok (.bool (!eqP a b c d)) w := by
  simp only [binOp]
  simp [run_equal55 ha hb hc hd w]
def WfP (ps : List (Int × Int)) : Prop := ∀ (i : Nat) (h : i < ps.length), Wf ps[i].1 ∧ Wf ps[i].2

/-- The place of a pair among the first ones; -1: there is none. -/
def andAt (ps : List (Int × Int)) (k : Nat) (x : Int × Int) : Int := match (ps.take k).findIdx? (· == x) with | some i => (i : Int) | none => -1

theorem andAt_hit (ps : List (Int × Int)) (n k : Nat) (x : Int × Int) (hk : k < ps.length) (hn : k < n) (h : ∀ i (hi : i < ps.length), i < k → ps[i] ≠ x) (hx : ps[k] = x) : andAt ps n x = k := by
  have : (ps.take n).findIdx? (· == x) = some k := by
    rw [List.findIdx?_eq_some_iff_getElem]
    refine ⟨by rw [List.length_take]; omega, by simp [hx], fun j hj => ?_⟩
    simp only [List.getElem_take]
    simpa using h j (by omega) hj
  unfold andAt
  rw [this]

theorem andAt_miss (ps : List (Int × Int)) (n : Nat) (x : Int × Int) (h : ∀ i (hi : i < ps.length), i < n → ps[i] ≠ x) : andAt ps n x = -1 := by
  have : (ps.take n).findIdx? (· == x) = none := by
    rw [List.findIdx?_eq_none_iff]
    intro y hy
    obtain ⟨i, hi, rfl⟩ := List.getElem_of_mem hy
    simp only [List.getElem_take]
    rw [List.length_take] at hi
    simpa using h i (by omega) (by omega)
  unfold andAt
  rw [this]

set_option maxHeartbeats 2000000 in
theorem andAt_any (ins : Int) (p : Option Addr) (cap : Nat) (ps : List (Int × Int)) (hl : ps.length ≤ 1000001) (hwf : WfP ps) (n : Nat) (hn : n ≤ ps.length) (a b : Int) (ha : Wf a) (hb : Wf b) (w : World) (hP : PairsAt w p ps) :
    Calls Tryz.prog 72 #[gval ins p ps.length cap, .int .i64 n, arr2 a b] w fun e w' => e = .returned (.int .i64 (andAt ps n (a, b))) ∧ Below w.heap.size w w' := by
  have HWF := hide hwf
  have HAB := hide (And.intro ha hb)
  clear hwf ha hb
  have hB0 : Below w.heap.size w ((w.alloc (.cells #[.int .i64 ins, .slice p ps.length cap] 24)).alloc (.cells #[.int .i64 a, .int .i64 b] 75)) := bal (bal (Below.refl _ _) _) _
  go_enter Tryz.func72, Tryz.ntmps72
  go_wp2
  go_loopw [7] (fun i wr => ∃ k : Nat, k ≤ n ∧ i = .int .i64 k ∧ Hid (∀ i (hi : i < ps.length), i < k → ps[i] ≠ (a, b)) ∧ Below w.heap.size w wr ∧ wr.cell? ⟨w.heap.size, 1, none⟩ = some (.slice p ps.length cap) ∧ wr.cell? ⟨w.heap.size + 1, 0, none⟩ = some (.int .i64 a) ∧ wr.cell? ⟨w.heap.size + 1, 1, none⟩ = some (.int .i64 b)) (fun i _ => n - (intOf i).toNat)
  case atStart => exact ⟨0, Nat.zero_le _, rfl, fun i hi h => by omega, hB0, by simp [go_sem], by simp [go_sem], by simp [go_sem]⟩
  case round =>
    obtain ⟨k, hk, rfl, hno, hbw, q1, r0, r1⟩ := hrel
    by_cases hlt : k < n
    · have hkl : k < ps.length := by omega
      obtain ⟨bb, off, rfl, hc⟩ := (hP.later hbw) (by omega)
      obtain ⟨c0, c1⟩ := hc k hkl
      have HH := hide (andAt_hit ps n k (a, b) hkl hlt hno.out)
      have HN : Hid (ps[k] ≠ (a, b) → ∀ i (hi : i < ps.length), i < k + 1 → ps[i] ≠ (a, b)) := by
        intro hne i hi h
        rcases Nat.lt_succ_iff_lt_or_eq.1 h with h1 | rfl
        · exact hno.out i hi h1
        · exact hne
      have hki : (k : Int) < (ps.length : Int) := by omega
      have hwk := HWF.out k hkl
      have he := @run_eql55 ps[k].1 ps[k].2 a b hwk.1 hwk.2 HAB.out.1 HAB.out.2
      clear hc hno hwk
      generalize ps[k] = pr at *
      obtain ⟨s, y⟩ := pr
      simp only at *
      cases hx : eqP s y a b
      · rw [hx] at he
        have HNN := hide (HN.out (by simpa [eqP] using hx))
        clear hx HH HN
        go_wp2
        go_quiet (fail)
        go_wp2
        go_roundw
        case rel => exact ⟨k + 1, by omega, by go_num, HNN, bdn hbw _, q1, r0, r1⟩
        case measure => simp [intOf]; omega
      · rw [hx] at he
        have HV := hide (HH.out (by simpa [eqP] using hx))
        clear hx HH HN
        go_wp2
        go_quiet (fail)
        go_wp2
        go_ret
        exact ⟨ret_int HV.out.symm, bdn hbw _⟩
    · have HV : Hid (andAt ps n (a, b) = -1) := andAt_miss ps n (a, b) (fun i hi h => hno.out i hi (by omega))
      go_wp2
      go_ret
      exact ⟨ret_int HV.out.symm, hbw⟩

def isLit (e x : Int) : Bool := !noLit e x

theorem isLit_any (ins : Int) (p : Option Addr) (len cap : Nat) (x : Int) (h0 : 0 ≤ ins) (h1 : ins ≤ 1000) (h2 : len ≤ 1000001) (w : World) :
    Calls Tryz.prog 53 #[gval ins p len cap, .int .i64 x] w fun r w' => r = .returned (.bool (isLit (2 * (1 + ins + len)) x)) ∧ Below w.heap.size w w' := by
  have HE : Hid (btw x 0 (2 * (1 + ins + len) - 1) = isLit (2 * (1 + ins + len)) x) := by
    rw [Bool.eq_iff_iff, btw_true]; simp [isLit, noLit, Hid]; omega
  generalize isLit (2 * (1 + ins + len)) x = R at *
  go_enter Tryz.func53, Tryz.ntmps53
  go_wp2_with (go_at_call 21; refine (between_any _ _ _ _).mono ?_; rintro e w' ⟨rfl, rfl⟩)
  go_ret
  exact ⟨ret_bool HE.out, bal (Below.refl _ _) _⟩

set_option maxHeartbeats 2000000 in
theorem areLits_any (ins : Int) (p : Option Addr) (len cap : Nat) (h0 : 0 ≤ ins) (h1 : ins ≤ 1000) (h2 : len ≤ 1000001) (l : List Int) (q : Option Addr) (qc : Nat) (hl : l.length ≤ maxLen) (w : World) (hI : IntsAt w q l) :
    Calls Tryz.prog 54 #[gval ins p len cap, .slice q l.length qc] w fun r w' => r = .returned (.bool (l.all (isLit (2 * (1 + ins + len))))) ∧ Below w.heap.size w w' := by
  have hB0 : Below w.heap.size w (w.alloc (.cells #[.int .i64 ins, .slice p len cap] 24)) := bal (Below.refl _ _) _
  unfold maxLen at hl
  go_enter Tryz.func54, Tryz.ntmps54
  go_wp2
  go_loopw [5] (fun i wr => ∃ k : Nat, k ≤ l.length ∧ i = .int .i64 k ∧ Hid (∀ i (hi : i < l.length), i < k → isLit (2 * (1 + ins + len)) l[i] = true) ∧ Below w.heap.size w wr ∧ wr.cell? ⟨w.heap.size, 0, none⟩ = some (.int .i64 ins) ∧ wr.cell? ⟨w.heap.size, 1, none⟩ = some (.slice p len cap)) (fun i _ => l.length - (intOf i).toNat)
  case atStart => exact ⟨0, Nat.zero_le _, rfl, fun i hi h => by omega, hB0, by simp [go_sem], by simp [go_sem]⟩
  case round =>
    obtain ⟨k, hk, rfl, hno, hbw, q0, q1⟩ := hrel
    by_cases hlt : k < l.length
    · obtain ⟨bb, off, rfl, hc⟩ := (hI.later hbw) (by omega)
      have c0 := hc k hlt
      have hki : (k : Int) < (l.length : Int) := by omega
      have HB := hide hbw
      cases hx : isLit (2 * (1 + ins + len)) l[k]
      · have HX : Hid (l.all (isLit (2 * (1 + ins + len))) = false) := by
          rw [Bool.eq_false_iff]; intro h; rw [List.all_eq_true] at h; rw [h _ (List.getElem_mem hlt)] at hx; cases hx
        have HX2 := hide hx
        clear hc hx hno hbw hB0
        generalize l[k] = x at *
        go_wp2
        go_region_held3 (fun w' => w'.cell? ⟨w.heap.size, 0, none⟩ = some (.int .i64 ins) ∧ w'.cell? ⟨w.heap.size, 1, none⟩ = some (.slice p len cap) ∧ w'.cell? ⟨bb, off + k, none⟩ = some (.int .i64 x))
          (first | exact ⟨q0, q1, c0⟩ | exact ⟨cell_later hb1 q0, cell_later hb1 q1, cell_later hb1 c0⟩ | go_keep)
          ((go_at_call 53; refine (isLit_any _ _ _ _ _ h0 h1 h2 _).mono ?_; rintro e w1 ⟨rfl, hb1⟩; rw [HX2.out]))
        have HB2 := hide (bthen HB.out.drew hb1)
        clear hb1
        go_wp2
        go_ret
        exact ⟨ret_bool HX.out.symm, HB2.out⟩
      · have HN : Hid (∀ i (hi : i < l.length), i < k + 1 → isLit (2 * (1 + ins + len)) l[i] = true) := by
          intro i hi h
          rcases Nat.lt_succ_iff_lt_or_eq.1 h with h1 | rfl
          · exact hno.out i hi h1
          · exact hx
        have HX2 := hide hx
        clear hc hx hno hbw hB0
        generalize l[k] = x at *
        go_wp2
        go_region_held3 (fun w' => w'.cell? ⟨w.heap.size, 0, none⟩ = some (.int .i64 ins) ∧ w'.cell? ⟨w.heap.size, 1, none⟩ = some (.slice p len cap) ∧ w'.cell? ⟨bb, off + k, none⟩ = some (.int .i64 x))
          (first | exact ⟨q0, q1, c0⟩ | exact ⟨cell_later hb1 q0, cell_later hb1 q1, cell_later hb1 c0⟩ | go_keep)
          ((go_at_call 53; refine (isLit_any _ _ _ _ _ h0 h1 h2 _).mono ?_; rintro e w1 ⟨rfl, hb1⟩; rw [HX2.out]))
        have HB2 := hide (bthen HB.out.drew hb1)
        have q0' := cell_later hb1 (show wr.drew.cell? _ = _ from q0)
        have q1' := cell_later hb1 (show wr.drew.cell? _ = _ from q1)
        clear hb1
        go_wp2
        go_roundw
        case rel => exact ⟨k + 1, by omega, by go_num, HN, HB2.out, q0', q1'⟩
        case measure => simp [intOf]; omega
    · have HV : Hid (l.all (isLit (2 * (1 + ins + len))) = true) := by
        rw [List.all_eq_true]
        intro x hx
        obtain ⟨i, hi, rfl⟩ := List.getElem_of_mem hx
        exact hno.out i hi (by omega)
      go_wp2
      go_ret
      exact ⟨ret_bool HV.out.symm, hbw⟩

/-- What a literal is. -/
def litV (v : List Bool) (x : Int) : Bool := v.getD (x / 2).toNat false != odd x

theorem getD_bools {v : List Bool} {i : Nat} (h : i < v.length) : v.getD i false = v[i] := by simp [List.getD, List.getElem?_eq_getElem h]

end Go.Proofs.YtjhkecnnhddhbaaGreatDoor
