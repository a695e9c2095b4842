/- Clauses: Print, and the plain one. -/
import Derived.Test.YtabnimgpednhjabDoorHe
import Derived.Test.YtabnimgpednhjabDoorPa
namespace Go.Proofs.YtabnimgpednhjabDoor
open Go.RowKit Go.Maps Go.WideMaps
set_option maxRecDepth 100000
set_option maxRecDepth 100000

/-- The text of the first numbers of a clause. -/
def rowN (ns : List Int) : Nat → List UInt8
  | 0 => []
  | k + 1 => rowN ns k ++ (match ns[k]? with | some n => (itoaB n).data.toList ++ [32] | none => [])
theorem rowN_succ {ns : List Int} {k : Nat} (h : k < ns.length) : rowN ns (k + 1) = rowN ns k ++ ((itoaB ns[k]).data.toList ++ [32]) := by
  simp [rowN, List.getElem?_eq_getElem h]
/-- The text of clauses, behind its first line. -/
def textN (L : List (List Int)) : Nat → List UInt8
  | 0 => []
  | k + 1 => textN L k ++ (match L[k]? with | some ns => rowN ns ns.length ++ [48, 10] | none => [])
theorem textN_succ {L : List (List Int)} {k : Nat} (h : k < L.length) : textN L (k + 1) = textN L k ++ (rowN L[k] L[k].length ++ [48, 10]) := by
  simp [textN, List.getElem?_eq_getElem h]
/-- The first line. -/
def headT (vars : Int) (n : Nat) : List UInt8 := [112, 32, 99, 110, 102, 32] ++ (itoaB vars).data.toList ++ [32] ++ (itoaB (n : Int)).data.toList ++ [10]
def printT (vars : Int) (L : List (List Int)) : List UInt8 := headT vars L.length ++ textN L L.length

theorem itoa_len {n : Int} (h0 : -9223372036854775808 ≤ n) (h1 : n ≤ 9223372036854775807) : (itoaB n).data.toList.length ≤ 21 := itoaB_size h0 h1
def Wfs (ns : List Int) : Prop := ns.length ≤ 200 ∧ ∀ n ∈ ns, -200000 ≤ n ∧ n ≤ 200000
theorem rowN_len {ns : List Int} (h : Wfs ns) (k : Nat) (hk : k ≤ ns.length) : (rowN ns k).length ≤ 22 * k := by
  induction k with
  | zero => simp [rowN]
  | succ k ih =>
    have hb := h.2 ns[k] (List.getElem_mem (by omega))
    have := itoa_len (n := ns[k]) (by omega) (by omega)
    rw [rowN_succ (by omega), List.length_append, List.length_append]
    have := ih (by omega)
    simp at *
    omega
theorem textN_len {L : List (List Int)} (h : ∀ ns ∈ L, Wfs ns) (k : Nat) (hk : k ≤ L.length) : (textN L k).length ≤ 5000 * k := by
  induction k with
  | zero => simp [textN]
  | succ k ih =>
    have hm := h L[k] (List.getElem_mem (by omega))
    have h1 := rowN_len hm L[k].length (Nat.le_refl _)
    have h2 := hm.1
    have := ih (by omega)
    rw [textN_succ (by omega), List.length_append, List.length_append]
    simp at *
    omega
theorem headT_len {vars : Int} {n : Nat} (h0 : 0 ≤ vars) (h1 : vars ≤ 200000) (h2 : n ≤ 800000) : (headT vars n).length ≤ 60 := by
  have a := itoa_len (n := vars) (by omega) (by omega)
  have b := itoa_len (n := (n : Int)) (by omega) (by omega)
  simp [headT] at *
  omega
theorem head_line (vars : Int) (n : Nat) : lineN ((⟨#[112, 32, 99, 110, 102]⟩ : ByteArray) :: [vars, (n : Int)].map itoaB) 3 ++ [10] = headT vars n := by
  simp [lineN, headT]
theorem zero_line : lineN [(⟨#[48]⟩ : ByteArray)] 1 ++ [10] = [48, 10] := by simp [lineN]

/-- A new builder. -/
theorem fresh_builder (w : World) : Lib.IsBuilder 45 5 w.heap.size w.heap.size (Lib.byteCells []) (w.alloc (.cells #[.pointer none, .slice none 0 0] 45)) :=
  .inl ⟨Nat.le_refl _, .slice none 0 0, heap_alloc_new w _, World.ownsRow_nil _ _ _ _, by simp [Value.ownBlock]⟩
theorem strs_one (w : World) (s : ByteArray) : StrsAt (w.alloc (.cells #[.string s] 9)) (some ⟨w.heap.size, 0, none⟩) [s] := fun _ => ⟨w.heap.size, 0, _, _, rfl, heap_alloc_new w _, fun i hi => by
  match i, hi with
  | 0, _ => simp⟩
theorem ints_at2 {w : World} (x y : Int) : IntsAt (w.alloc (.cells #[.int .i64 x, .int .i64 y] 3)) (some ⟨w.heap.size, 0, none⟩) [x, y] := ints_two x y

set_option maxHeartbeats 8000000 in
theorem print_any (vars : Int) (p : Option Addr) (cap : Nat) (rs : List Row) (hl : rs.length ≤ 8796093022208) (hin : ∀ r ∈ rs, r.ns.length ≤ maxLen) (w : World) (hC : ClAt w p rs) (htab : Lib.TabIs Tryd.prog w "internal/strconv.uint64pow10" .u64 Lib.pow10Tab) :
    Calls Tryd.prog 5 #[cval vars p rs.length cap] w fun e w' => ∃ t : List UInt8, e = .returned (.tuple #[.string ⟨t.toArray⟩, .int .i64 (chkC vars (numsOf rs))]) ∧ (chkC vars (numsOf rs) = 0 → t = printT vars (numsOf rs)) ∧ (chkC vars (numsOf rs) ≠ 0 → t = []) ∧ Below w.heap.size w w' := by
  have hB0 : Below w.heap.size w (w.alloc (.cells #[.int .i64 vars, .slice p rs.length cap] 24)) := bal (Below.refl _ _) _
  have HCK := hide (checkC_any vars p cap rs hl hin _ (hC.later hB0))
  have HC := hide hC
  have HT := hide htab
  clear hC hin htab
  by_cases hc : chkC vars (numsOf rs) = 0
  · obtain ⟨v0, v1, hln, hall⟩ := chkC_zero hc
    rw [numsOf_len] at hln
    have HWF : Hid (∀ ns ∈ numsOf rs, Wfs ns) := fun ns hn => ⟨(hall ns hn).1, fun n h => by have := (hall ns hn).2 n h; omega⟩
    have HZ := hide hc
    rw [hc] at HCK
    clear hall
    rw [hc]
    generalize hL : numsOf rs = L at *
    have HLL : Hid (L.length = rs.length) := by rw [← hL]; exact numsOf_len rs
    have HRN : Hid (∀ k (h : k < rs.length) (h2 : k < L.length), L[k] = rs[k].ns) := fun k h h2 => by subst hL; simp [numsOf]
    clear hL hc
    go_enter Tryd.func5, Tryd.ntmps5
    go_wp2_with fail
    refine HCK.out.mono ?_
    rintro e w1 ⟨rfl, hb1⟩
    have HB1 := hide (bthen hB0 hb1)
    have q0 := cell_later hb1 (a := ⟨w.heap.size, 0, none⟩) (v := .int .i64 vars) (by simp [go_sem])
    have q1 := cell_later hb1 (a := ⟨w.heap.size, 1, none⟩) (v := .slice p rs.length cap) (by simp [go_sem])
    have hsz1 := hb1.size
    simp at hsz1
    have a0 := past1 q0 (.cells #[.pointer none, .slice none 0 0] 45)
    have a1 := past1 q1 (.cells #[.pointer none, .slice none 0 0] 45)
    clear hb1 hB0 HCK
    have hbA : Below w1.heap.size w1 ((w1.alloc (.cells #[.pointer none, .slice none 0 0] 45)).alloc (.cells #[.int .i64 vars, .int .i64 (rs.length : Int)] 3)) := bal (bal (Below.refl _ _) _) _
    have HHL := hide (headT_len v0 v1 hln)
    have HHD := hide (head_line vars rs.length)
    have HNB := hide (numbers_any w1.heap.size w1.heap.size [] ⟨#[112, 32, 99, 110, 102]⟩ (some ⟨w1.heap.size + 1, 0, none⟩) 2 [vars, (rs.length : Int)] _
      (builder_later (fresh_builder w1) (bal (Below.refl _ _) (.cells #[.int .i64 vars, .int .i64 (rs.length : Int)] 3))) (by have := ints_at2 (w := w1.alloc (.cells #[.pointer none, .slice none 0 0] 45)) vars (rs.length : Int); simpa using this) (by simp) (fun n hn => by simp at hn; rcases hn with rfl | rfl <;> omega)
      (by have h := congrArg List.length HHD.out; rw [List.length_append] at h; have h2 := HHL.out; rw [← h] at h2; simp at h2 ⊢; omega) (by simp; omega) (tab_later HT.out (bthen HB1.out hbA)))
    have hns2 : ([vars, (rs.length : Int)] : List Int).length + 1 = 3 := rfl
    rw [hns2, List.nil_append, HHD.out] at HNB
    have HB2 := hide (bthen HB1.out hbA)
    have q0' := cell_later hbA q0
    have q1' := cell_later hbA q1
    clear hbA hns2 HHD
    go_wp2_with fail
    refine HNB.out.mono ?_
    rintro e w4 ⟨rfl, hbu, hb4, _⟩
    have p0 := hb4.cell (p := ⟨w.heap.size, 0, none⟩) (by simp; omega)
    have p1 := hb4.cell (p := ⟨w.heap.size, 1, none⟩) (by simp; omega)
    rw [q0'] at p0
    rw [q1'] at p1
    have hsz4 := hb4.size
    simp at hsz4
    have HB4 := hide (HB2.out.trans (hb4.mono (by omega)))
    have HBU := hide hbu
    clear hb4 hbu q0' q1' a0 a1 q0 q1 HNB HB2
    generalize hM : w1.heap.size = M at *
    clear hM
    generalize hHD : headT vars rs.length = HD at *
    have HHE := hide hHD
    clear hHD
    go_wp2
    go_loopw [25] (fun i wr => ∃ k : Nat, k ≤ rs.length ∧ i = .int .i64 k ∧ Hid (Lib.IsBuilder 45 5 M M (Lib.byteCells (HD ++ textN L k)) wr ∧ Below M w4 wr)) (fun i _ => rs.length - (intOf i).toNat)
    case atStart => exact ⟨0, Nat.zero_le _, rfl, by simpa [textN] using HBU.out, Below.refl _ _⟩
    case round =>
      clear HBU
      obtain ⟨k, hk, rfl, HR⟩ := hrel
      have hszw := HR.out.2.size
      have HBW := hide (HB4.out.trans (HR.out.2.mono (by omega)))
      have HTL := hide (textN_len HWF.out k (by rw [HLL.out]; omega))
      by_cases hlt : k < rs.length
      · obtain ⟨b, off, rfl, hc⟩ := (HC.out.rows.later HBW.out) (by omega)
        have hck := hc k hlt
        have hki : (k : Int) < (rs.length : Int) := by omega
        have hLk : k < L.length := by rw [HLL.out]; omega
        have HTS := hide (textN_succ hLk)
        have HWR := hide (HWF.out L[k] (List.getElem_mem hLk))
        rw [HRN.out k hlt hLk] at HTS HWR
        have HIR := hide (fun (w' : World) (hb : Below w.heap.size w w') => HC.out.inn.later hb rs[k] (List.getElem_mem hlt))
        clear hc
        generalize rs[k] = r at *
        obtain ⟨ra, rn, rc⟩ := r
        unfold Row.v at hck
        simp only at *
        obtain ⟨hn2, hnum⟩ := HWR.out
        have HNUM := hide hnum
        clear hnum
        go_wp2
        generalize hTX : HD ++ textN L k = TX at *
        have HTXL : Hid (TX.length ≤ 60 + 5000 * k) := by rw [← hTX, List.length_append]; have h1 := HTL.out; have h2 := HHL.out; show _ ≤ _; omega
        have HTXS : Hid (HD ++ textN L (k + 1) = TX ++ (rowN rn rn.length ++ [48, 10])) := by rw [HTS.out, ← hTX, List.append_assoc]; rfl
        clear hTX HTS
        go_loopw [31] (fun i wr2 => ∃ j : Nat, j ≤ rn.length ∧ i = .int .i64 j ∧ Hid (Lib.IsBuilder 45 5 M M (Lib.byteCells (TX ++ rowN rn j)) wr2 ∧ Below M w4 wr2)) (fun i _ => rn.length - (intOf i).toNat)
        case atStart => exact ⟨0, Nat.zero_le _, rfl, by simpa [rowN] using HR.out.1, HR.out.2⟩
        case round =>
          clear HR HBW hck hszw
          obtain ⟨j, hj, rfl, HR⟩ := hrel
          have hszw := HR.out.2.size
          have HBW := hide (HB4.out.trans (HR.out.2.mono (by omega)))
          have HRL := hide (rowN_len HWR.out j hj)
          by_cases hlt2 : j < rn.length
          · obtain ⟨ib, io, rfl, hic⟩ := (HIR.out _ HBW.out) (by omega)
            have hcj := hic j hlt2
            have hji : (j : Int) < (rn.length : Int) := by omega
            have hxb := HNUM.out rn[j] (List.getElem_mem hlt2)
            have HRS := hide (rowN_succ hlt2)
            clear hic
            generalize rn[j] = x at *
            have HXL := hide (itoa_len (n := x) (by omega) (by omega))
            go_wp2_with fail
            refine (Tryd.strconv_Itoa x (by omega) (by omega) _ (tab_later HT.out HBW.out)).mono ?_
            rintro e w5 ⟨rfl, kk, os, rfl⟩
            have hb5 := Lib.below_grow wr.heap.size wr (Nat.le_refl _) kk os
            generalize Sort.grow (wr.drewN kk) os = w5 at *
            have HU5 := hide (builder_later HR.out.1 hb5)
            have HM5 := hide (HR.out.2.trans (hb5.mono (by omega)))
            have hs5 := hb5.size
            clear hb5 HR
            go_wp2_with fail
            refine (write_any M M (TX ++ rowN rn j) (itoaB x) _ HU5.out (by rw [List.length_append]; have h1 := HTXL.out; have h2 := HRL.out; have h3 := HXL.out; omega) (by omega)).mono ?_
            rintro e w6 ⟨rfl, hu6, hb6, _⟩
            have HU6 := hide hu6
            have HM6 := hide (HM5.out.trans hb6)
            have hs6 := hb6.size
            clear hu6 hb6 HU5 HM5
            go_wp2_with fail
            refine (write_any M M (TX ++ rowN rn j ++ (itoaB x).data.toList) ⟨#[32]⟩ _ HU6.out (by rw [List.length_append, List.length_append]; have h1 := HTXL.out; have h2 := HRL.out; have h3 := HXL.out; have h4 : ((⟨#[32]⟩ : ByteArray).data.toList).length = 1 := rfl; omega) (by omega)).mono ?_
            rintro e w7 ⟨rfl, hu7, hb7, _⟩
            have HV : Hid (Lib.IsBuilder 45 5 M M (Lib.byteCells (TX ++ rowN rn (j + 1))) w7 ∧ Below M w4 w7) := ⟨by rw [HRS.out]; simpa [List.append_assoc] using hu7, HM6.out.trans hb7⟩
            clear hu7 hb7 HU6 HM6
            go_wp2
            go_roundw
            case rel => exact ⟨j + 1, by omega, by go_num, HV⟩
            case measure => simp [intOf]; omega
          · obtain rfl : j = rn.length := by omega
            have hji : ¬ (rn.length : Int) < (rn.length : Int) := by omega
            have hbZ := bal (Below.refl wr.heap.size wr) (.cells #[.string ⟨#[48]⟩] 9)
            have HZL := hide zero_line
            go_wp2_with fail
            refine (line_any M M (TX ++ rowN rn rn.length) (some ⟨wr.heap.size, 0, none⟩) 1 [⟨#[48]⟩] _ (builder_later HR.out.1 hbZ) (strs_one wr _) (by rw [List.length_append]; have h1 := HTXL.out; have h2 := HRL.out; simp [lineN]; omega) (by simp) (by simp; omega)).mono ?_
            rintro e w6 ⟨rfl, hu6, hb6, _⟩
            have HV : Hid (Lib.IsBuilder 45 5 M M (Lib.byteCells (HD ++ textN L (k + 1))) w6 ∧ Below M w4 w6) := ⟨by rw [HTXS.out, ← HZL.out]; simpa [List.append_assoc] using hu6, (HR.out.2.alloc (by omega) _).trans hb6⟩
            clear hu6 hb6 HR hbZ
            go_wp2
            go_roundw
            case rel => exact ⟨k + 1, by omega, by go_num, HV⟩
            case measure => simp [intOf]; omega
      · obtain rfl : k = rs.length := by omega
        have hki : ¬ (rs.length : Int) < (rs.length : Int) := by omega
        have HFT : Hid (HD ++ textN L rs.length = printT vars L) := by unfold printT; rw [HLL.out, HHE.out]; rfl
        have HSA := hide (string_any M M (HD ++ textN L rs.length) wr HR.out.1 (by rw [← HHE.out]; simp [headT]))
        rw [HFT.out] at HSA
        go_wp2_with fail
        refine HSA.out.mono ?_
        rintro e w6 ⟨rfl, hb6⟩
        have HB6 := hide (HBW.out.trans (hb6.mono (by omega)))
        clear hb6 HSA
        go_wp2
        go_ret2
        exact ⟨_, rfl, fun _ => rfl, fun h => absurd rfl h, HB6.out⟩
  · have hne : (chkC vars (numsOf rs) != 0) = true := by simpa using hc
    have HNZ := hide hc
    clear hc
    generalize chkC vars (numsOf rs) = R at *
    go_enter Tryd.func5, Tryd.ntmps5
    go_wp2_with fail
    refine HCK.out.mono ?_
    rintro e w1 ⟨rfl, hb1⟩
    have HB1 := hide (bthen hB0 hb1)
    clear hb1 hB0 HCK
    go_wp2
    go_ret2
    exact ⟨[], rfl, fun h => absurd h HNZ.out, fun _ => rfl, HB1.out⟩

end Go.Proofs.YtabnimgpednhjabDoor
