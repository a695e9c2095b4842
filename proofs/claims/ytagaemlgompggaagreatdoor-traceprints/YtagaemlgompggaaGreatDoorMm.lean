/- Marks are checked; and a whole model. -/
import Derived.Test.YtagaemlgompggaaGreatDoorMl
namespace Go.Proofs.YtagaemlgompggaaGreatDoor.Ev
open Go.RowKit
set_option maxRecDepth 100000

def marksE (ns : List Nd) (xs : List (Int × Int)) (bs hs : List Int) : Int :=
  if (sel (isK ns 3) ns.length).any (fun s => !hasSt s xs) then 5
  else if bs.any (fun x => !isN ns.length x) || hs.any (fun x => !isN ns.length x) then 5
  else if bs.any (fun x => wdOf ns x != 1) || hs.any (fun x => wdOf ns x != 1) then 1 else 0

theorem missing_any (m : Mv) (len : Nat) (hl : len ≤ 80) (l : List Int) (hll : l.length ≤ 80) (p : Option Addr) (cap B : Nat) (w : World) (hI : IntsAt w p l) (hB : Box w B m len) :
    Calls Tryz.prog 26 #[.slice p l.length cap, .func (.func 102) #[] #[.pointer (some ⟨B, 0, none⟩)]] w fun e w' => e = .returned (.bool (l.any (fun x => !isN len x))) ∧ Below w.heap.size w w' :=
  containsFunc_any 102 _ _ l p cap w (by unfold maxLen; omega) hI enter75 fun _ hb i _ => marks2_any m len hl l[i] B _ (hB.later hb)

theorem wide_any (m : Mv) (ns : List Nd) (hl : ns.length ≤ 80) (l : List Int) (hll : l.length ≤ 80) (hn : l.any (fun x => !isN ns.length x) = false) (p : Option Addr) (cap B : Nat) (w : World) (hI : IntsAt w p l) (hB : Box w B m ns.length) (hN : NodesAt w m.a0 ns) :
    Calls Tryz.prog 26 #[.slice p l.length cap, .func (.func 104) #[] #[.pointer (some ⟨B, 0, none⟩)]] w fun e w' => e = .returned (.bool (l.any (fun x => wdOf ns x != 1))) ∧ Below w.heap.size w w' :=
  containsFunc_any 104 _ _ l p cap w (by unfold maxLen; omega) hI enter76 fun _ hb i hi => marks3_any m ns hl l[i] (isN_true.1 (by have := List.any_eq_false.1 hn l[i] (List.getElem_mem hi); simpa using this)) B _ (hB.later hb) (hN.later hb)

set_option maxRecDepth 100000 in
set_option maxHeartbeats 2000000 in
theorem checkMarks_any (a0 a1 a2 a3 a4 : Option Addr) (c0 c1 c2 c3 c4 l1 : Nat) (ns : List Nd) (xs : List (Int × Int)) (bs hs : List Int) (hl : ns.length ≤ 80) (hlx : xs.length ≤ 8796093022208) (hlb : bs.length ≤ 80) (hlh : hs.length ≤ 80) (w : World)
    (hN : NodesAt w a0 ns) (hX : PairsAt w a2 xs) (hBs : IntsAt w a3 bs) (hHs : IntsAt w a4 hs) :
    Calls Tryz.prog 79 #[Mv.val ⟨a0, c0, a1, l1, c1, a2, xs.length, c2, a3, bs.length, c3, a4, hs.length, c4⟩ ns.length] w fun e w' => e = .returned (.int .i64 (marksE ns xs bs hs)) ∧ Below w.heap.size w w' := by
  have hmf : ∀ (fn : Fn) (first cap : Array Value) (w : World), (Instr.makeFunc fn first cap).run Tryz.prog w = .ok (.func fn first cap) w := fun _ _ _ _ => rfl
  have HBx := hide (Box.new w ⟨a0, c0, a1, l1, c1, a2, xs.length, c2, a3, bs.length, c3, a4, hs.length, c4⟩ ns.length)
  have hb0 : Below w.heap.size w (w.alloc (.cells (Mv.cells ⟨a0, c0, a1, l1, c1, a2, xs.length, c2, a3, bs.length, c3, a4, hs.length, c4⟩ ns.length) 51)) := bal (Below.refl _ _) _
  go_enter Tryz.func79, Tryz.ntmps79
  go_wp2_with fail
  refine (ofKind_any a0 c0 ns (by omega) 3 _ (hN.later hb0)).mono ?_
  rintro e w1 ⟨q, qc, rfl, hQ, hb1⟩
  have hbw1 := bthen hb0 hb1
  have HB1 := hide (HBx.out.later hb1)
  have hN1 := hN.later hbw1
  have hX1 := hX.later hbw1
  have hBs1 := hBs.later hbw1
  have hHs1 := hHs.later hbw1
  have hsl := sel_len (isK ns 3) ns.length
  clear hb0 hb1 HBx hN hX hBs hHs
  generalize hL : sel (isK ns 3) ns.length = l at *
  have HL := hide hL
  clear hL
  go_wp2
  go_loopw [11] (fun i wr => ∃ k : Nat, k ≤ l.length ∧ i = .int .i64 k ∧ Below w1.heap.size w1 wr ∧ Hid (∀ i (hi : i < l.length), i < k → (!hasSt l[i] xs) = false)) (fun i _ => l.length - (intOf i).toNat)
  case atStart => exact ⟨0, Nat.zero_le _, rfl, Below.refl _ _, fun i hi h => by omega⟩
  case round =>
    obtain ⟨k, hk, rfl, hbw, hz⟩ := hrel
    have hbox := HB1.out.later hbw
    have HBr := hide hbox
    simp only [Box] at hbox
    obtain ⟨q0, q1, q2, q3, q4⟩ := hbox
    by_cases hlt : k < l.length
    · obtain ⟨b, off, rfl, hc⟩ := (hQ.later hbw) (by omega)
      have hck := hc k hlt
      have HM : Hid (hasSt l[k] xs = false → l.any (fun s => !hasSt s xs) = true) := fun h => List.any_eq_true.2 ⟨l[k], List.getElem_mem hlt, by simp [h]⟩
      have HN : Hid (hasSt l[k] xs = true → ∀ i (hi : i < l.length), i < k + 1 → (!hasSt l[i] xs) = false) := by
        intro h i hi hik
        rcases Nat.lt_succ_iff_lt_or_eq.1 hik with h1 | rfl
        · exact hz.out i hi h1
        · simp [h]
      clear hc hz
      generalize l[k] = s at *
      have t2 := past1 q2
      go_wp2_with fail
      refine (containsPair_any s wr.heap.size xs a2 c2 _ hlx (hX1.later (bal hbw _)) (by simp [go_sem])).mono ?_
      rintro e w2 ⟨rfl, hb2⟩
      have hbw2 := bthen (bal hbw _) hb2
      cases hf : hasSt s xs
      · have HM2 := hide (HM.out hf)
        have HE : Hid (marksE ns xs bs hs = 5) := by unfold marksE; rw [HL.out, if_pos HM2.out]; rfl
        clear hf HM HN
        go_wp2
        go_ret
        exact ⟨ret_int HE.out.symm, bthen hbw1 hbw2⟩
      · have HN2 := hide (HN.out hf)
        clear hf HM HN
        go_wp2
        go_roundw
        case rel => exact ⟨k + 1, by omega, by go_num, hbw2, HN2⟩
        case measure => simp [intOf]; omega
    · have HV : Hid (l.any (fun s => !hasSt s xs) = false) := by
        refine List.any_eq_false.2 (fun x hx => ?_)
        obtain ⟨i, hi, rfl⟩ := List.getElem_of_mem hx
        simpa using hz.out i hi (by omega)
      clear hz
      go_wp2_with fail
      refine (missing_any _ ns.length hl bs hlb a3 c3 w.heap.size _ (hBs1.later hbw) HBr.out).mono ?_
      rintro e w2 ⟨rfl, hb2⟩
      have hbw2 := bthen hbw hb2
      have HB2 := hide (HBr.out.later hb2)
      have x3 := cell_later hb2 q3
      have x4 := cell_later hb2 q4
      clear q0 q1 q2 q3 q4 hb2
      cases hm1 : bs.any (fun x => !isN ns.length x)
      · go_wp2_with fail
        refine (missing_any _ ns.length hl hs hlh a4 c4 w.heap.size _ (hHs1.later hbw2) HB2.out).mono ?_
        rintro e w3 ⟨rfl, hb3⟩
        have hbw3 := bthen hbw2 hb3
        have HB3 := hide (HB2.out.later hb3)
        have y3 := cell_later hb3 x3
        have y4 := cell_later hb3 x4
        clear x3 x4 hb3
        cases hm2 : hs.any (fun x => !isN ns.length x)
        · have HM1 := hide hm1
          have HM2 := hide hm2
          clear hm1 hm2
          go_wp2_with fail
          refine (wide_any _ ns hl bs hlb HM1.out a3 c3 w.heap.size _ (hBs1.later hbw3) HB3.out (hN1.later hbw3)).mono ?_
          rintro e w4 ⟨rfl, hb4⟩
          have hbw4 := bthen hbw3 hb4
          have HB4 := hide (HB3.out.later hb4)
          have z4 := cell_later hb4 y4
          clear y3 y4 hb4
          cases hv1 : bs.any (fun x => wdOf ns x != 1)
          · have HV1 := hide hv1
            clear hv1
            go_wp2_with fail
            refine (wide_any _ ns hl hs hlh HM2.out a4 c4 w.heap.size _ (hHs1.later hbw4) HB4.out (hN1.later hbw4)).mono ?_
            rintro e w5 ⟨rfl, hb5⟩
            have HE : Hid (marksE ns xs bs hs = if hs.any (fun x => wdOf ns x != 1) then 1 else 0) := by
              unfold marksE; rw [HL.out, HV.out, HM1.out, HM2.out, HV1.out]; rfl
            cases hv2 : hs.any (fun x => wdOf ns x != 1)
            · rw [hv2] at HE
              go_wp2
              go_ret
              exact ⟨ret_int HE.out.symm, bthen hbw1 (bthen hbw4 hb5)⟩
            · rw [hv2] at HE
              go_wp2
              go_ret
              exact ⟨ret_int HE.out.symm, bthen hbw1 (bthen hbw4 hb5)⟩
          · have HE : Hid (marksE ns xs bs hs = 1) := by
              unfold marksE; rw [HL.out, HV.out, HM1.out, HM2.out, hv1]; rfl
            clear hv1
            go_wp2
            go_ret
            exact ⟨ret_int HE.out.symm, bthen hbw1 hbw4⟩
        · have HE : Hid (marksE ns xs bs hs = 5) := by
            unfold marksE; rw [HL.out, HV.out, hm1, hm2]; rfl
          clear hm1 hm2
          go_wp2
          go_ret
          exact ⟨ret_int HE.out.symm, bthen hbw1 hbw3⟩
      · have HE : Hid (marksE ns xs bs hs = 5) := by
          unfold marksE; rw [HL.out, HV.out, hm1]; rfl
        clear hm1
        go_wp2
        go_ret
        exact ⟨ret_int HE.out.symm, bthen hbw1 hbw2⟩

end Go.Proofs.YtagaemlgompggaaGreatDoor.Ev
