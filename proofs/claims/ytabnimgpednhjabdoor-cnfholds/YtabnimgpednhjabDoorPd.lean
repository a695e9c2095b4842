/- CnfHolds: the walk. -/
import Derived.Test.YtabnimgpednhjabDoorPc
namespace Go.Proofs.YtabnimgpednhjabDoor
open Go.RowKit Go.Maps Go.WideMaps
set_option maxRecDepth 100000
set_option maxRecDepth 100000

set_option maxHeartbeats 8000000 in
theorem cnfHolds_walk (vars : Int) (p : Option Addr) (cap : Nat) (rs : List Row) (hl : rs.length ≤ 8796093022208) (hin : ∀ r ∈ rs, r.ns.length ≤ maxLen) (v : List Bool) (q : Option Addr) (qc : Nat) (hvl : v.length ≤ maxLen) (w : World) (hC : ClAt w p rs) (hV : BoolsAt w q v) (htab : Lib.TabIs Tryd.prog w "internal/strconv.uint64pow10" .u64 Lib.pow10Tab) :
    Calls Tryd.prog 3 #[cval vars p rs.length cap, .slice q v.length qc] w fun e w' => e = .returned (.bool true) ∧ Below w.heap.size w w' := by
  have hB0 : Below w.heap.size w (w.alloc (.cells #[.int .i64 vars, .slice p rs.length cap] 24)) := bal (Below.refl _ _) _
  have H1 := hide (holds_any vars p cap rs hl hin v q qc hvl _ (hC.later hB0) (hV.later hB0))
  have H2 := hide (fun (w' : World) (hb : Below w.heap.size w w') => print_any vars p cap rs hl hin w' (hC.later hb) (tab_later htab hb))
  have H3 := hide (fun (w' : World) (hb : Below w.heap.size w w') => checkClauses_any vars p cap rs hl hin w' (hC.later hb))
  have H4 := hide (fun (w' : World) (hb : Below w.heap.size w w') => checkC_any vars p cap rs hl hin w' (hC.later hb))
  have HB0 := hide hB0
  have HC := hide hC
  have HV := hide hV
  clear hC hV htab hB0 hin
  go_enter Tryd.func3, Tryd.ntmps3
  go_wp2_with fail
  refine H1.out.mono ?_
  rintro e w1 ⟨rfl, hb1⟩
  have q0 := cell_later hb1 (a := ⟨w.heap.size, 0, none⟩) (v := .int .i64 vars) (by simp [go_sem])
  have q1 := cell_later hb1 (a := ⟨w.heap.size, 1, none⟩) (v := .slice p rs.length cap) (by simp [go_sem])
  have HB1 := hide (bthen HB0.out hb1)
  clear hb1 H1 HB0
  go_wp2_with fail
  refine (H2.out _ HB1.out).mono ?_
  rintro e w2 ⟨t, rfl, ht0, ht1, hb2⟩
  have q0' := cell_later hb2 q0
  have q1' := cell_later hb2 q1
  have HB2 := hide (bthen HB1.out hb2)
  have HT0 := hide ht0
  have HT1 := hide ht1
  clear hb2 H2 HB1 ht0 ht1 q0 q1
  go_wp2_with fail
  refine (H3.out _ HB2.out).mono ?_
  rintro e w3 ⟨rfl, hb3⟩
  have q0 := cell_later hb3 q0'
  have q1 := cell_later hb3 q1'
  have HB3 := hide (bthen HB2.out hb3)
  clear hb3 H3 HB2 q0' q1'
  by_cases hc : chkC vars (numsOf rs) = 0
  · obtain ⟨v0, v1, hln, hall⟩ := chkC_zero hc
    rw [numsOf_len] at hln
    have HALL := hide hall
    obtain rfl := HT0.out hc
    have HE : Hid (hoE vars (numsOf rs) v = if (v.length : Int) ≠ vars then 1 else 0) := by unfold hoE; rw [if_neg (by simpa using hc)]; rfl
    have HBB : Hid (hoE vars (numsOf rs) v = 0 → hoB vars (numsOf rs) v = holdsL v (numsOf rs)) := fun h => by unfold hoB; rw [if_pos h]
    have HBN : Hid (hoE vars (numsOf rs) v = 1 → hoB vars (numsOf rs) v = false) := fun h => by unfold hoB; rw [if_neg (by rw [h]; decide)]
    have H5 := hide (fun (w' : World) (hb : Below w.heap.size w w') => plainPrint_any vars v0 v1 p cap rs hln (fun ns hn => ⟨(hall ns hn).1, fun n h => by have := (hall ns hn).2 n h; omega⟩) w' (HC.out.later hb))
    have H6 := hide (fun (he : (v.length : Int) = vars) (w' : World) (hb : Below w.heap.size w w') => holdsOf_any v p cap rs hln (fun r hr => by have := hall r.ns (List.mem_map.2 ⟨r, hr, rfl⟩); rw [he]; exact this) (by omega) q qc vars w' (HC.out.later hb) (HV.out.later hb))
    rw [hc] at H4 ⊢
    have HBS : Hid (bsT (printT vars (numsOf rs)) = ⟨(printT vars (numsOf rs)).toArray⟩) := rfl
    rw [HBS.out] at H5
    generalize (⟨(printT vars (numsOf rs)).toArray⟩ : ByteArray) = PT at *
    clear hall HT0 HT1 hc HBS
    by_cases hvv : (v.length : Int) = vars
    · have he0 : hoE vars (numsOf rs) v = 0 := by rw [HE.out, if_neg (by simpa using hvv)]
      have H7 := hide (H6.out hvv)
      rw [he0, HBB.out he0]
      have hne : ((v.length : Int) != vars) = false := by simpa using hvv
      clear HE HBB HBN he0 H6 hvv
      generalize holdsL v (numsOf rs) = X at *
      go_wp2_with fail
      refine (H5.out _ HB3.out).mono ?_
      rintro e w4 ⟨rfl, hb4⟩
      have q0' := cell_later hb4 q0
      have q1' := cell_later hb4 q1
      have HB4 := hide (bthen HB3.out hb4)
      clear hb4 q0 q1 HB3 H5
      go_wp2_with fail
      refine (H7.out _ HB4.out).mono ?_
      rintro e w5 ⟨rfl, hb5⟩
      have q0 := cell_later hb5 q0'
      have q1 := cell_later hb5 q1'
      have HB5 := hide (bthen HB4.out hb5)
      clear hb5 q0' q1' HB4 H7
      go_wp2_with fail
      refine (cnfBegun_any _).mono ?_
      rintro e w6 ⟨rfl, hb6⟩
      have q0' := cell_later hb6 q0
      have q1' := cell_later hb6 q1
      have HB6 := hide (bthen HB5.out hb6)
      clear hb6 q0 q1 HB5
      go_wp2_with fail
      refine (H4.out _ HB6.out).mono ?_
      rintro e w7 ⟨rfl, hb7⟩
      have HB7 := hide (bthen HB6.out hb7)
      clear hb7 HB6 H4
      go_wp2
      go_ret
      exact ⟨by simp, HB7.out⟩
    · have he1 : hoE vars (numsOf rs) v = 1 := by rw [HE.out, if_pos (by simpa using hvv)]
      rw [he1, HBN.out he1]
      have hne : ((v.length : Int) != vars) = true := by simpa using hvv
      clear HE HBB HBN he1 H6 hvv
      go_wp2_with fail
      refine (H5.out _ HB3.out).mono ?_
      rintro e w4 ⟨rfl, hb4⟩
      have q0' := cell_later hb4 q0
      have q1' := cell_later hb4 q1
      have HB4 := hide (bthen HB3.out hb4)
      clear hb4 q0 q1 HB3 H5
      go_wp2_with fail
      refine (cnfBegun_any _).mono ?_
      rintro e w6 ⟨rfl, hb6⟩
      have q0 := cell_later hb6 q0'
      have q1 := cell_later hb6 q1'
      have HB6 := hide (bthen HB4.out hb6)
      clear hb6 q0' q1' HB4
      go_wp2_with fail
      refine (H4.out _ HB6.out).mono ?_
      rintro e w7 ⟨rfl, hb7⟩
      have HB7 := hide (bthen HB6.out hb7)
      clear hb7 HB6 H4
      go_wp2
      go_ret
      exact ⟨by simp, HB7.out⟩
  · obtain rfl := HT1.out hc
    have he : hoE vars (numsOf rs) v = chkC vars (numsOf rs) := by unfold hoE; rw [if_pos hc]
    have hb : hoB vars (numsOf rs) v = false := by unfold hoB; rw [if_neg (by rw [he]; exact hc)]
    rw [he, hb]
    have hne : (chkC vars (numsOf rs) == 0) = false := by simpa using hc
    clear he hb hc HT0 HT1
    generalize chkC vars (numsOf rs) = R at *
    go_wp2_with fail
    refine (cnfBegun_any _).mono ?_
    rintro e w6 ⟨rfl, hb6⟩
    have q0' := cell_later hb6 q0
    have q1' := cell_later hb6 q1
    have HB6 := hide (bthen HB3.out hb6)
    clear hb6 q0 q1 HB3
    go_wp2_with fail
    refine (H4.out _ HB6.out).mono ?_
    rintro e w7 ⟨rfl, hb7⟩
    have HB7 := hide (bthen HB6.out hb7)
    clear hb7 HB6 H4
    go_wp2
    go_ret
    exact ⟨by simp, HB7.out⟩

end Go.Proofs.YtabnimgpednhjabDoor
