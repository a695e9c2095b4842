/- What a model is told, its inputs and its states: the law's walk. -/
import Derived.Test.YtabnimgpednhjaaNf
import Derived.Test.YtabnimgpednhjaaNi
import Derived.Test.YtabnimgpednhjaaOb
namespace Go.Proofs.Ytabnimgpednhjaa
open Go.RowKit

theorem listB_self (e : Int) (r : List Int) : listB (if e = 0 then r else []) e e r = true := by
  unfold listB; simp

set_option maxRecDepth 100000 in
set_option maxHeartbeats 4000000 in
theorem checks_walk (a0 a1 a2 a3 a4 : Option Addr) (c0 c1 c2 c3 c4 : Nat) (ns : List Nd) (is xs : List (Int × Int)) (bs hs : List Int) (hln : ns.length ≤ 2932031007402) (hli : is.length ≤ 8796093022208) (hlx : xs.length ≤ 8796093022208) (hlb : bs.length ≤ maxLen) (hlh : hs.length ≤ maxLen) (hn3 : a3 = none → c3 = 0) (hn4 : a4 = none → c4 = 0) (w : World)
    (hN : NodesAt w a0 ns) (hI : PairsAt w a1 is) (hX : PairsAt w a2 xs) (hBs : IntsAt w a3 bs) (hHs : IntsAt w a4 hs) :
    Calls Try.prog 6 #[Mv.val ⟨a0, c0, a1, is.length, c1, a2, xs.length, c2, a3, bs.length, c3, a4, hs.length, c4⟩ ns.length] w fun e w' => e = .returned (.bool true) ∧ Below w.heap.size w w' := by
  have HB0 : Hid (Below w.heap.size w (w.alloc (.cells (Mv.cells ⟨a0, c0, a1, is.length, c1, a2, xs.length, c2, a3, bs.length, c3, a4, hs.length, c4⟩ ns.length) 40))) := bal (Below.refl _ _) _
  have HBx := hide (Box.new w ⟨a0, c0, a1, is.length, c1, a2, xs.length, c2, a3, bs.length, c3, a4, hs.length, c4⟩ ns.length)
  have hlm : ns.length ≤ maxLen := by unfold maxLen; omega
  have HKI := hide (fun (w1 : World) (hb : Below w.heap.size w w1) => inputs_any a0 a1 a2 a3 a4 c0 c1 c2 c3 c4 ns is xs bs hs hln hli hlx hlb hlh w1 (hN.later hb) (hI.later hb) (hX.later hb) (hBs.later hb) (hHs.later hb))
  have HKS := hide (fun (w1 : World) (hb : Below w.heap.size w w1) => states_any a0 a1 a2 a3 a4 c0 c1 c2 c3 c4 ns is xs bs hs hln hli hlx hlb hlh w1 (hN.later hb) (hI.later hb) (hX.later hb) (hBs.later hb) (hHs.later hb))
  have HKM := hide (fun (w1 : World) (hb : Below w.heap.size w w1) => checkModelR_any a0 a1 a2 a3 a4 c0 c1 c2 c3 c4 ns is xs bs hs hlm hli hlx hlb hlh hn3 hn4 w1 (hN.later hb) (hI.later hb) (hX.later hb) (hBs.later hb) (hHs.later hb))
  have HKC := hide (fun (w1 : World) (hb : Below w.heap.size w w1) => check_any a0 a1 a2 a3 a4 c0 c1 c2 c3 c4 ns is xs bs hs hlm hli hlx hlb hlh w1 (hN.later hb) (hI.later hb) (hX.later hb) (hBs.later hb) (hHs.later hb))
  have HKN := hide (fun (kind : Int) (w1 : World) (hb : Below w.heap.size w w1) => nodesR_any ⟨a0, c0, a1, is.length, c1, a2, xs.length, c2, a3, bs.length, c3, a4, hs.length, c4⟩ ns hln kind w1 (hN.later hb))
  have HL2 := hide (Nat.le_trans (sel_len (isK ns 2) ns.length) hlm)
  have HL3 := hide (Nat.le_trans (sel_len (isK ns 3) ns.length) hlm)
  have HS2 := hide (listB_self (checkE ns is xs bs hs) (sel (isK ns 2) ns.length))
  have HS3 := hide (listB_self (checkE ns is xs bs hs) (sel (isK ns 3) ns.length))
  have HP2 : Hid ((if checkE ns is xs bs hs = 0 then sel (isK ns 2) ns.length else []).length ≤ maxLen) := by split <;> simp [Hid]; exact HL2.out
  have HP3 : Hid ((if checkE ns is xs bs hs = 0 then sel (isK ns 3) ns.length else []).length ≤ maxLen) := by split <;> simp [Hid]; exact HL3.out
  have HKN2 := hide (HKN.out 2)
  have HKN3 := hide (HKN.out 3)
  clear hN hI hX hBs hHs HKN
  generalize checkE ns is xs bs hs = ce at *
  generalize (if ce = 0 then sel (isK ns 2) ns.length else []) = l2 at *
  generalize (if ce = 0 then sel (isK ns 3) ns.length else []) = l3 at *
  generalize sel (isK ns 2) ns.length = s2 at *
  generalize sel (isK ns 3) ns.length = s3 at *
  have hcc : (ce == ce) = true := by simp
  go_enter Try.func6, Try.ntmps6
  go_wp2_with fail
  refine (HKI.out _ HB0.out).mono ?_
  rintro e w1 ⟨p1, k1, m2, rfl, rfl, hJ1, hb1⟩
  have HB1 := hide (bthen HB0.out hb1)
  have HX1 := hide (HBx.out.later hb1)
  have HJ1 := hide hJ1
  clear hb1 HB0 HBx hJ1 HKI
  have hbox := HX1.out
  simp only [Box] at hbox
  obtain ⟨q0, q1, q2, q3, q4⟩ := hbox
  go_wp2_with fail
  refine (HKS.out _ HB1.out).mono ?_
  rintro e w2 ⟨p2, k2, m3, rfl, rfl, hJ2, hb2⟩
  have HB2 := hide (bthen HB1.out hb2)
  have HX2 := hide (HX1.out.later hb2)
  have HJ1 := hide (HJ1.out.later hb2)
  have HJ2 := hide hJ2
  clear hb2 HB1 HX1 hJ2 HKS q0 q1 q2 q3 q4
  have hbox := HX2.out
  simp only [Box] at hbox
  obtain ⟨q0, q1, q2, q3, q4⟩ := hbox
  go_wp2_with fail
  refine (HKM.out _ HB2.out).mono ?_
  rintro e w3 ⟨rfl, hb3⟩
  have HB3 := hide (bthen HB2.out hb3)
  have HX3 := hide (HX2.out.later hb3)
  have HJ1 := hide (HJ1.out.later hb3)
  have HJ2 := hide (HJ2.out.later hb3)
  clear hb3 HB2 HX2 HKM q0 q1 q2 q3 q4
  have hbox := HX3.out
  simp only [Box] at hbox
  obtain ⟨q0, q1, q2, q3, q4⟩ := hbox
  go_wp2_with fail
  refine (modelBegun_any _).mono ?_
  rintro e w4 ⟨rfl, hb4⟩
  have HB4 := hide (bthen HB3.out hb4)
  have HX4 := hide (HX3.out.later hb4)
  have HJ1 := hide (HJ1.out.later hb4)
  have HJ2 := hide (HJ2.out.later hb4)
  clear hb4 HB3 HX3 q0 q1 q2 q3 q4
  have hbox := HX4.out
  simp only [Box] at hbox
  obtain ⟨q0, q1, q2, q3, q4⟩ := hbox
  go_wp2_with fail
  refine (HKC.out _ HB4.out).mono ?_
  rintro e w5 ⟨rfl, hb5⟩
  have HB5 := hide (bthen HB4.out hb5)
  have HX5 := hide (HX4.out.later hb5)
  have HJ1 := hide (HJ1.out.later hb5)
  have HJ2 := hide (HJ2.out.later hb5)
  clear hb5 HB4 HX4 HKC q0 q1 q2 q3 q4
  have hbox := HX5.out
  simp only [Box] at hbox
  obtain ⟨q0, q1, q2, q3, q4⟩ := hbox
  go_wp2_with fail
  refine (HKN2.out _ HB5.out).mono ?_
  rintro e w6 ⟨p6, k6, rfl, hJ6, hb6⟩
  have HB6 := hide (bthen HB5.out hb6)
  have HX6 := hide (HX5.out.later hb6)
  have HJ1 := hide (HJ1.out.later hb6)
  have HJ2 := hide (HJ2.out.later hb6)
  have HLI := hide (fun _ : Unit => listIs_any p1 p6 k1 k6 m2 s2 ce ce HP2.out HL2.out w6 HJ1.out hJ6)
  rw [HS2.out] at HLI
  clear hb6 HB5 HX5 HKN2 hJ6 HJ1 q0 q1 q2 q3 q4
  go_wp2_with fail
  refine (HLI.out ()).mono ?_
  rintro e w7 ⟨rfl, hb7⟩
  have HB7 := hide (bthen HB6.out hb7)
  have HX7 := hide (HX6.out.later hb7)
  have HJ2 := hide (HJ2.out.later hb7)
  clear hb7 HB6 HX6 HLI
  have hbox := HX7.out
  simp only [Box] at hbox
  obtain ⟨q0, q1, q2, q3, q4⟩ := hbox
  go_wp2_with fail
  refine (HKN3.out _ HB7.out).mono ?_
  rintro e w8 ⟨p8, k8, rfl, hJ8, hb8⟩
  have HB8 := hide (bthen HB7.out hb8)
  have HJ2 := hide (HJ2.out.later hb8)
  have HLI := hide (fun _ : Unit => listIs_any p2 p8 k2 k8 m3 s3 ce ce HP3.out HL3.out w8 HJ2.out hJ8)
  rw [HS3.out] at HLI
  clear hb8 HB7 HX7 HKN3 hJ8 HJ2 q0 q1 q2 q3 q4
  go_wp2_with fail
  refine (HLI.out ()).mono ?_
  rintro e w9 ⟨rfl, hb9⟩
  go_wp2
  go_ret
  exact ⟨rfl, bthen HB8.out hb9⟩

end Go.Proofs.Ytabnimgpednhjaa
