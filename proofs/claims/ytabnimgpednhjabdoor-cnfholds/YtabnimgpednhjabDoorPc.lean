/- Clauses: the plain Print. -/
import Derived.Test.YtabnimgpednhjabDoorPb
namespace Go.Proofs.YtabnimgpednhjabDoor
open Go.RowKit Go.Maps Go.WideMaps
set_option maxRecDepth 100000
set_option maxRecDepth 100000

def bsT (l : List UInt8) : ByteArray := ⟨l.toArray⟩
theorem bsT_app (l : List UInt8) (b : ByteArray) : bsT l ++ b = bsT (l ++ b.data.toList) := by unfold bsT; simp [ByteArray.ext_iff]
theorem bsT_size (l : List UInt8) : (bsT l).size = l.length := by simp [bsT, ByteArray.size]
theorem head_bs (vars : Int) (n : Nat) : (⟨#[112, 32, 99, 110, 102, 32]⟩ : ByteArray) ++ itoaB vars ++ ⟨#[32]⟩ ++ itoaB (n : Int) ++ ⟨#[10]⟩ = bsT (headT vars n) := by
  unfold bsT headT
  simp [ByteArray.ext_iff]
theorem app_list (a b : ByteArray) : (a ++ b).data.toList = a.data.toList ++ b.data.toList := by simp

set_option maxHeartbeats 8000000 in
theorem plainPrint_any (vars : Int) (v0 : 0 ≤ vars) (v1 : vars ≤ 200000) (p : Option Addr) (cap : Nat) (rs : List Row) (hln : rs.length ≤ 800000) (hwf : ∀ ns ∈ numsOf rs, Wfs ns) (w : World) (hC : ClAt w p rs) :
    Calls Tryd.prog 7 #[cval vars p rs.length cap] w fun e w' => e = .returned (.string (bsT (printT vars (numsOf rs)))) ∧ Below w.heap.size w w' := by
  have HC := hide hC
  have HWF := hide hwf
  have HLL := hide (numsOf_len rs)
  have HRN : Hid (∀ k (h : k < rs.length) (h2 : k < (numsOf rs).length), (numsOf rs)[k] = rs[k].ns) := fun k h h2 => by simp [numsOf]
  have HPT : Hid (printT vars (numsOf rs) = headT vars rs.length ++ textN (numsOf rs) rs.length) := by unfold printT; rw [numsOf_len]; rfl
  have HHL := hide (headT_len v0 v1 hln)
  have HHB := hide (head_bs vars rs.length)
  have t1 := itoaB_size (n := vars) (by omega) (by omega)
  have t2 := itoaB_size (n := (rs.length : Int)) (by omega) (by omega)
  have z1 : (ByteArray.mk #[112, 32, 99, 110, 102, 32]).size = 6 := rfl
  have z2 : (ByteArray.mk #[32]).size = 1 := rfl
  have z3 : (ByteArray.mk #[10]).size = 1 := rfl
  have z4 : (ByteArray.mk #[48, 10]).size = 2 := rfl
  have n1 : ¬ 9223372036854775807 < 6 + (itoaB vars).size := by omega
  have n2 : ¬ 9223372036854775807 < 6 + (itoaB vars).size + 1 := by omega
  have n3 : ¬ 9223372036854775807 < 6 + (itoaB vars).size + 1 + (itoaB (rs.length : Int)).size := by omega
  have n4 : ¬ 9223372036854775807 < 6 + (itoaB vars).size + 1 + (itoaB (rs.length : Int)).size + 1 := by omega
  generalize numsOf rs = L at *
  have hb0 : Below w.heap.size w (w.alloc (.cells #[.int .i64 vars, .slice p rs.length cap] 24)).drew := (bal (Below.refl _ _) _).drew
  have d0 : (w.alloc (.cells #[.int .i64 vars, .slice p rs.length cap] 24)).drew.cell? ⟨w.heap.size, 0, none⟩ = some (.int .i64 vars) := by simp [go_sem]
  have d1 : (w.alloc (.cells #[.int .i64 vars, .slice p rs.length cap] 24)).drew.cell? ⟨w.heap.size, 1, none⟩ = some (.slice p rs.length cap) := by simp [go_sem]
  clear hC hwf
  go_enter Tryd.func7, Tryd.ntmps7
  go_wp2
  go_region_held3 (fun w' => w'.cell? ⟨w.heap.size, 0, none⟩ = some (.int .i64 vars) ∧ w'.cell? ⟨w.heap.size, 1, none⟩ = some (.slice p rs.length cap))
    (first | exact ⟨d0, d1⟩ | exact ⟨by assumption, by assumption⟩ | go_keep)
    ((go_at_call 22; refine (digits_any _ (by omega) (by omega) _).mono ?_; rintro e wN ⟨rfl, hbN⟩; have e0 := cell_later hbN (a := ⟨w.heap.size, 0, none⟩) (v := .int .i64 vars) (by assumption); have e1 := cell_later hbN (a := ⟨w.heap.size, 1, none⟩) (v := .slice p rs.length cap) (by assumption); have hbX := bthen (show Below w.heap.size w _ by assumption) hbN; clear hbN))
  rw [HHB.out]
  rename_i hHeld
  have HBX := hide hbX
  generalize hHD : headT vars rs.length = HD at *
  clear hHeld hb0 d0 d1 n1 n2 n3 n4 t1 t2 hbX e0 hHD HHB
  go_wp2
  go_loopw [3, 4] (fun s i wr => ∃ k : Nat, k ≤ rs.length ∧ i = .int .i64 k ∧ s = .string (bsT (HD ++ textN L k)) ∧ Hid (Below wN.heap.size wN wr)) (fun _ i _ => rs.length - (intOf i).toNat)
  case atStart => exact ⟨0, Nat.zero_le _, rfl, by simp [textN], Below.refl _ _⟩
  case round =>
    obtain ⟨k, hk, rfl, rfl, HR⟩ := hrel
    have c1 := cell_later HR.out e1
    have HBW := hide (bthen HBX.out HR.out)
    have HTL := hide (textN_len HWF.out k (by rw [HLL.out]; omega))
    by_cases hlt : k < rs.length
    · obtain ⟨b, off, rfl, hc⟩ := (HC.out.rows.later HBW.out) (by omega)
      have hck := hc k hlt
      have hki : (k : Int) < (rs.length : Int) := by omega
      have hLk : k < L.length := by rw [HLL.out]; omega
      have HTS := hide (textN_succ hLk)
      have HWR := hide (HWF.out L[k] (List.getElem_mem hLk))
      rw [HRN.out k hlt hLk] at HTS HWR
      have HIR := hide (fun (w' : World) (hb : Below w.heap.size w w') => HC.out.inn.later hb rs[k] (List.getElem_mem hlt))
      clear hc
      generalize rs[k] = r at *
      obtain ⟨ra, rn, rc⟩ := r
      unfold Row.v at hck
      simp only at *
      obtain ⟨hn2, hnum⟩ := HWR.out
      have HNUM := hide hnum
      clear hnum
      generalize hTX : HD ++ textN L k = TX at *
      have HTXL : Hid (TX.length ≤ 60 + 5000 * k) := by rw [← hTX, List.length_append]; have h1 := HTL.out; have h2 := HHL.out; show _ ≤ _; omega
      have HTXS : Hid (HD ++ textN L (k + 1) = TX ++ (rowN rn rn.length ++ [48, 10])) := by rw [HTS.out, ← hTX, List.append_assoc]; rfl
      clear hTX HTS
      go_wp2
      go_loopw [3, 5] (fun s i wr2 => ∃ j : Nat, j ≤ rn.length ∧ i = .int .i64 j ∧ s = .string (bsT (TX ++ rowN rn j)) ∧ Hid (Below wr.heap.size wr wr2)) (fun _ i _ => rn.length - (intOf i).toNat)
      case atStart => exact ⟨0, Nat.zero_le _, rfl, by simp [rowN], Below.refl _ _⟩
      case round =>
        obtain ⟨j, hj, rfl, rfl, HR2⟩ := hrel
        have c1' := cell_later HR2.out c1
        have hck' := cell_later HR2.out hck
        have HBW2 := hide (bthen HBW.out HR2.out)
        have HRL := hide (rowN_len HWR.out j hj)
        have hz : (bsT (TX ++ rowN rn j)).size ≤ 9000000000 := by rw [bsT_size, List.length_append]; have h1 := HTXL.out; have h2 := HRL.out; omega
        by_cases hlt2 : j < rn.length
        · obtain ⟨ib, io, rfl, hic⟩ := (HIR.out _ HBW2.out) (by omega)
          have hcj := hic j hlt2
          have hji : (j : Int) < (rn.length : Int) := by omega
          have hxb := HNUM.out rn[j] (List.getElem_mem hlt2)
          have HRS := hide (rowN_succ hlt2)
          clear hic
          generalize rn[j] = x at *
          have s1 := itoaB_size (n := x) (by omega) (by omega)
          have s2 : (itoaB x ++ ⟨#[32]⟩).size ≤ 22 := by rw [ByteArray.size_append]; omega
          have HWQ : Hid (bsT (TX ++ rowN rn (j + 1)) = bsT (TX ++ rowN rn j) ++ (itoaB x ++ ⟨#[32]⟩)) := by rw [bsT_app, app_list, HRS.out, List.append_assoc]; rfl
          generalize bsT (TX ++ rowN rn j) = W at *
          go_wp2_with fail
          refine (digits_any x (by omega) (by omega) _).mono ?_
          rintro e w5 ⟨rfl, hb5⟩
          have HR5 := hide (bthen HR2.out hb5)
          clear hb5
          go_wp2
          go_roundw
          case rel => exact ⟨j + 1, by omega, by go_num, by rw [HWQ.out], HR5⟩
          case measure => simp [intOf]; omega
        · obtain rfl : j = rn.length := by omega
          have hji : ¬ (rn.length : Int) < (rn.length : Int) := by omega
          have HWQ : Hid (bsT (HD ++ textN L (k + 1)) = bsT (TX ++ rowN rn rn.length) ++ ⟨#[48, 10]⟩) := by rw [bsT_app, HTXS.out, List.append_assoc]; rfl
          have HR5 := hide (bthen HR.out HR2.out)
          generalize bsT (TX ++ rowN rn rn.length) = W at *
          go_wp2
          go_roundw
          case rel => exact ⟨k + 1, by omega, by go_num, by rw [HWQ.out], HR5⟩
          case measure => simp [intOf]; omega
    · obtain rfl : k = rs.length := by omega
      have hki : ¬ (rs.length : Int) < (rs.length : Int) := by omega
      go_wp2
      go_ret
      exact ⟨by rw [HPT.out]; rfl, HBW.out⟩

end Go.Proofs.YtabnimgpednhjabDoor
