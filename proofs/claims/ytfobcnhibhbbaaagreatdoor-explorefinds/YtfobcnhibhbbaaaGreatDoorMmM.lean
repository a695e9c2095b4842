/- Marks are checked. -/
import Derived.Test.YtfobcnhibhbbaaaGreatDoorMk
namespace Go.Proofs.YtfobcnhibhbbaaaGreatDoor.Ev
open Go.RowKit
set_option maxRecDepth 100000

/-- Is one of the pairs of this state? -/
def hasSt (s : Int) (l : List (Int × Int)) : Bool := l.any (fun p => p.1 == s)

theorem enter74 (args : Array Value) (w : World) : (callFunc 57 args).run Tryz.prog w = .ok (.enter 57 args) w := by kernel_rfl
theorem enter75 (args : Array Value) (w : World) : (callFunc 58 args).run Tryz.prog w = .ok (.enter 58 args) w := by kernel_rfl
theorem enter76 (args : Array Value) (w : World) : (callFunc 60 args).run Tryz.prog w = .ok (.enter 60 args) w := by kernel_rfl

theorem marks1_any (a b s : Int) (B : Nat) (w : World) (hB : w.cell? ⟨B, 0, none⟩ = some (.int .i64 s)) :
    Calls Tryz.prog 57 #[.agg #[.int .i64 a, .int .i64 b], .pointer (some ⟨B, 0, none⟩)] w fun e w' => e = .returned (.bool (a == s)) ∧ Below w.heap.size w w' := by
  have t := past1 hB
  go_enter Tryz.func57, Tryz.ntmps57
  go_wp2
  go_ret
  exact ⟨rfl, bal (Below.refl _ _) _⟩

set_option maxRecDepth 100000 in
set_option maxHeartbeats 1000000 in
theorem indexPair_any (s : Int) (B : Nat) (l : List (Int × Int)) (p : Option Addr) (cap : Nat) (w : World) (hl : l.length ≤ 8796093022208) (hP : PairsAt w p l) (hB : w.cell? ⟨B, 0, none⟩ = some (.int .i64 s)) :
    Calls Tryz.prog 78 #[.slice p l.length cap, .func (.func 57) #[] #[.pointer (some ⟨B, 0, none⟩)]] w fun e w' => (∃ r : Int, e = .returned (.int .i64 r) ∧ (decide (0 ≤ r) = hasSt s l)) ∧ Below w.heap.size w w' := by
  go_enter Tryz.func78, Tryz.ntmps78
  go_wp2
  go_loopw [8] (fun i wr => ∃ k : Nat, k ≤ l.length ∧ i = .int .i64 k ∧ Hid (∀ i (hi : i < l.length), i < k → (l[i].1 == s) = false) ∧ Below w.heap.size w wr) (fun i _ => l.length - (intOf i).toNat)
  case atStart => exact ⟨0, Nat.zero_le _, rfl, fun i hi h => by omega, Below.refl _ _⟩
  case round =>
    obtain ⟨k, hk, rfl, hno, hbw⟩ := hrel
    by_cases hlt : k < l.length
    · obtain ⟨b, off, rfl, hc⟩ := (hP.later hbw) (by omega)
      obtain ⟨d0, d1⟩ := hc k hlt
      have hBr := cell_later hbw hB
      have HM : Hid ((l[k].1 == s) = true → hasSt s l = true) := fun h => List.any_eq_true.2 ⟨l[k], List.getElem_mem hlt, h⟩
      have HN : Hid ((l[k].1 == s) = false → ∀ i (hi : i < l.length), i < k + 1 → (l[i].1 == s) = false) := by
        intro h i hi hik
        rcases Nat.lt_succ_iff_lt_or_eq.1 hik with h1 | rfl
        · exact hno.out i hi h1
        · exact h
      clear hc hno
      generalize l[k] = pr at *
      obtain ⟨a, y⟩ := pr
      simp only at *
      go_wp2_with fail
      refine (marks1_any a y s B _ hBr).mono ?_
      rintro e w' ⟨rfl, hb2⟩
      cases hf : a == s
      · have HN2 := hide (HN.out hf)
        clear hf HN HM
        go_wp2
        go_roundw
        case rel => exact ⟨k + 1, by omega, by go_num, HN2, bthen hbw hb2⟩
        case measure => simp [intOf]; omega
      · have HM2 := hide (HM.out hf)
        clear hf HN HM
        go_wp2
        go_ret
        exact ⟨⟨_, rfl, by rw [HM2.out]; simp⟩, bthen hbw hb2⟩
    · have HV : Hid (hasSt s l = false) := by
        unfold hasSt
        refine List.any_eq_false.2 (fun x hx => ?_)
        obtain ⟨i, hi, rfl⟩ := List.getElem_of_mem hx
        simp [hno.out i hi (by omega)]
      clear hno
      go_wp2
      go_ret
      exact ⟨⟨_, rfl, by rw [HV.out]; rfl⟩, hbw⟩

theorem containsPair_any (s : Int) (B : Nat) (l : List (Int × Int)) (p : Option Addr) (cap : Nat) (w : World) (hl : l.length ≤ 8796093022208) (hP : PairsAt w p l) (hB : w.cell? ⟨B, 0, none⟩ = some (.int .i64 s)) :
    Calls Tryz.prog 56 #[.slice p l.length cap, .func (.func 57) #[] #[.pointer (some ⟨B, 0, none⟩)]] w fun e w' => e = .returned (.bool (hasSt s l)) ∧ Below w.heap.size w w' := by
  have HC := hide (fun _ : Unit => indexPair_any s B l p cap w hl hP hB)
  clear hP hB
  go_enter Tryz.func56, Tryz.ntmps56
  go_wp2_with fail
  refine (HC.out ()).mono ?_
  rintro e w' ⟨⟨r, rfl, hr⟩, hb2⟩
  have HR := hide hr
  clear hr
  go_wp2
  go_ret
  exact ⟨ret_bool HR.out, hb2⟩

theorem marks2_any (m : Mv) (len : Nat) (hl : len ≤ 80) (x : Int) (B : Nat) (w : World) (hB : Box w B m len) :
    Calls Tryz.prog 58 #[.int .i64 x, .pointer (some ⟨B, 0, none⟩)] w fun e w' => e = .returned (.bool (!isN len x)) ∧ Below w.heap.size w w' := by
  obtain ⟨q0, q1, q2, q3, q4⟩ := hB
  go_enter Tryz.func58, Tryz.ntmps58
  go_wp2_with fail
  refine (isNode_below m len (by unfold maxLen; omega) x _).mono ?_
  rintro e w1 ⟨rfl, hb1⟩
  go_wp2
  go_ret
  exact ⟨rfl, hb1⟩

theorem marks3_any (m : Mv) (ns : List Nd) (hl : ns.length ≤ 80) (x : Int) (hx : 0 ≤ x ∧ x < ns.length) (B : Nat) (w : World) (hB : Box w B m ns.length) (hN : NodesAt w m.a0 ns) :
    Calls Tryz.prog 60 #[.int .i64 x, .pointer (some ⟨B, 0, none⟩)] w fun e w' => e = .returned (.bool (wdOf ns x != 1)) ∧ Below w.heap.size w w' := by
  obtain ⟨q0, q1, q2, q3, q4⟩ := hB
  obtain ⟨b, off, hp, hc⟩ := hN (by omega)
  have hw := wd_cell hc x hx.1 hx.2
  rw [hp] at q0
  clear hp hc hN q1 q2 q3 q4
  go_enter Tryz.func60, Tryz.ntmps60
  go_wp2
  go_ret
  exact ⟨rfl, Below.refl _ _⟩

end Go.Proofs.YtfobcnhibhbbaaaGreatDoor.Ev

namespace Go.Proofs.YtfobcnhibhbbaaaGreatDoor.Ev
open Go.RowKit
set_option maxRecDepth 100000

def marksE (ns : List Nd) (xs : List (Int × Int)) (bs hs : List Int) : Int :=
  if (sel (isK ns 3) ns.length).any (fun s => !hasSt s xs) then 5
  else if bs.any (fun x => !isN ns.length x) || hs.any (fun x => !isN ns.length x) then 5
  else if bs.any (fun x => wdOf ns x != 1) || hs.any (fun x => wdOf ns x != 1) then 1 else 0

theorem missing_any (m : Mv) (len : Nat) (hl : len ≤ 80) (l : List Int) (hll : l.length ≤ 80) (p : Option Addr) (cap B : Nat) (w : World) (hI : IntsAt w p l) (hB : Box w B m len) :
    Calls Tryz.prog 40 #[.slice p l.length cap, .func (.func 58) #[] #[.pointer (some ⟨B, 0, none⟩)]] w fun e w' => e = .returned (.bool (l.any (fun x => !isN len x))) ∧ Below w.heap.size w w' :=
  containsFunc_any 58 _ _ l p cap w (by unfold maxLen; omega) hI enter75 fun _ hb i _ => marks2_any m len hl l[i] B _ (hB.later hb)

theorem wide_any (m : Mv) (ns : List Nd) (hl : ns.length ≤ 80) (l : List Int) (hll : l.length ≤ 80) (hn : l.any (fun x => !isN ns.length x) = false) (p : Option Addr) (cap B : Nat) (w : World) (hI : IntsAt w p l) (hB : Box w B m ns.length) (hN : NodesAt w m.a0 ns) :
    Calls Tryz.prog 40 #[.slice p l.length cap, .func (.func 60) #[] #[.pointer (some ⟨B, 0, none⟩)]] w fun e w' => e = .returned (.bool (l.any (fun x => wdOf ns x != 1))) ∧ Below w.heap.size w w' :=
  containsFunc_any 60 _ _ l p cap w (by unfold maxLen; omega) hI enter76 fun _ hb i hi => marks3_any m ns hl l[i] (isN_true.1 (by have := List.any_eq_false.1 hn l[i] (List.getElem_mem hi); simpa using this)) B _ (hB.later hb) (hN.later hb)

set_option maxRecDepth 100000 in
set_option maxHeartbeats 2000000 in
theorem checkMarks_any (a0 a1 a2 a3 a4 : Option Addr) (c0 c1 c2 c3 c4 l1 : Nat) (ns : List Nd) (xs : List (Int × Int)) (bs hs : List Int) (hl : ns.length ≤ 80) (hlx : xs.length ≤ 8796093022208) (hlb : bs.length ≤ 80) (hlh : hs.length ≤ 80) (w : World)
    (hN : NodesAt w a0 ns) (hX : PairsAt w a2 xs) (hBs : IntsAt w a3 bs) (hHs : IntsAt w a4 hs) :
    Calls Tryz.prog 29 #[Mv.val ⟨a0, c0, a1, l1, c1, a2, xs.length, c2, a3, bs.length, c3, a4, hs.length, c4⟩ ns.length] w fun e w' => e = .returned (.int .i64 (marksE ns xs bs hs)) ∧ Below w.heap.size w w' := by
  have hmf : ∀ (fn : Fn) (first cap : Array Value) (w : World), (Instr.makeFunc fn first cap).run Tryz.prog w = .ok (.func fn first cap) w := fun _ _ _ _ => rfl
  have HBx := hide (Box.new w ⟨a0, c0, a1, l1, c1, a2, xs.length, c2, a3, bs.length, c3, a4, hs.length, c4⟩ ns.length)
  have hb0 : Below w.heap.size w (w.alloc (.cells (Mv.cells ⟨a0, c0, a1, l1, c1, a2, xs.length, c2, a3, bs.length, c3, a4, hs.length, c4⟩ ns.length) 26)) := bal (Below.refl _ _) _
  go_enter Tryz.func29, Tryz.ntmps29
  go_wp2_with fail
  refine (ofKind_any a0 c0 ns (by omega) 3 _ (hN.later hb0)).mono ?_
  rintro e w1 ⟨q, qc, rfl, hQ, hb1⟩
  have hbw1 := bthen hb0 hb1
  have HB1 := hide (HBx.out.later hb1)
  have hN1 := hN.later hbw1
  have hX1 := hX.later hbw1
  have hBs1 := hBs.later hbw1
  have hHs1 := hHs.later hbw1
  have hsl := sel_len (isK ns 3) ns.length
  clear hb0 hb1 HBx hN hX hBs hHs
  generalize hL : sel (isK ns 3) ns.length = l at *
  have HL := hide hL
  clear hL
  go_wp2
  go_loopw [11] (fun i wr => ∃ k : Nat, k ≤ l.length ∧ i = .int .i64 k ∧ Below w1.heap.size w1 wr ∧ Hid (∀ i (hi : i < l.length), i < k → (!hasSt l[i] xs) = false)) (fun i _ => l.length - (intOf i).toNat)
  case atStart => exact ⟨0, Nat.zero_le _, rfl, Below.refl _ _, fun i hi h => by omega⟩
  case round =>
    obtain ⟨k, hk, rfl, hbw, hz⟩ := hrel
    have hbox := HB1.out.later hbw
    have HBr := hide hbox
    simp only [Box] at hbox
    obtain ⟨q0, q1, q2, q3, q4⟩ := hbox
    by_cases hlt : k < l.length
    · obtain ⟨b, off, rfl, hc⟩ := (hQ.later hbw) (by omega)
      have hck := hc k hlt
      have HM : Hid (hasSt l[k] xs = false → l.any (fun s => !hasSt s xs) = true) := fun h => List.any_eq_true.2 ⟨l[k], List.getElem_mem hlt, by simp [h]⟩
      have HN : Hid (hasSt l[k] xs = true → ∀ i (hi : i < l.length), i < k + 1 → (!hasSt l[i] xs) = false) := by
        intro h i hi hik
        rcases Nat.lt_succ_iff_lt_or_eq.1 hik with h1 | rfl
        · exact hz.out i hi h1
        · simp [h]
      clear hc hz
      generalize l[k] = s at *
      have t2 := past1 q2
      go_wp2_with fail
      refine (containsPair_any s wr.heap.size xs a2 c2 _ hlx (hX1.later (bal hbw _)) (by simp [go_sem])).mono ?_
      rintro e w2 ⟨rfl, hb2⟩
      have hbw2 := bthen (bal hbw _) hb2
      cases hf : hasSt s xs
      · have HM2 := hide (HM.out hf)
        have HE : Hid (marksE ns xs bs hs = 5) := by unfold marksE; rw [HL.out, if_pos HM2.out]; rfl
        clear hf HM HN
        go_wp2
        go_ret
        exact ⟨ret_int HE.out.symm, bthen hbw1 hbw2⟩
      · have HN2 := hide (HN.out hf)
        clear hf HM HN
        go_wp2
        go_roundw
        case rel => exact ⟨k + 1, by omega, by go_num, hbw2, HN2⟩
        case measure => simp [intOf]; omega
    · have HV : Hid (l.any (fun s => !hasSt s xs) = false) := by
        refine List.any_eq_false.2 (fun x hx => ?_)
        obtain ⟨i, hi, rfl⟩ := List.getElem_of_mem hx
        simpa using hz.out i hi (by omega)
      clear hz
      go_wp2_with fail
      refine (missing_any _ ns.length hl bs hlb a3 c3 w.heap.size _ (hBs1.later hbw) HBr.out).mono ?_
      rintro e w2 ⟨rfl, hb2⟩
      have hbw2 := bthen hbw hb2
      have HB2 := hide (HBr.out.later hb2)
      have x3 := cell_later hb2 q3
      have x4 := cell_later hb2 q4
      clear q0 q1 q2 q3 q4 hb2
      cases hm1 : bs.any (fun x => !isN ns.length x)
      · go_wp2_with fail
        refine (missing_any _ ns.length hl hs hlh a4 c4 w.heap.size _ (hHs1.later hbw2) HB2.out).mono ?_
        rintro e w3 ⟨rfl, hb3⟩
        have hbw3 := bthen hbw2 hb3
        have HB3 := hide (HB2.out.later hb3)
        have y3 := cell_later hb3 x3
        have y4 := cell_later hb3 x4
        clear x3 x4 hb3
        cases hm2 : hs.any (fun x => !isN ns.length x)
        · have HM1 := hide hm1
          have HM2 := hide hm2
          clear hm1 hm2
          go_wp2_with fail
          refine (wide_any _ ns hl bs hlb HM1.out a3 c3 w.heap.size _ (hBs1.later hbw3) HB3.out (hN1.later hbw3)).mono ?_
          rintro e w4 ⟨rfl, hb4⟩
          have hbw4 := bthen hbw3 hb4
          have HB4 := hide (HB3.out.later hb4)
          have z4 := cell_later hb4 y4
          clear y3 y4 hb4
          cases hv1 : bs.any (fun x => wdOf ns x != 1)
          · have HV1 := hide hv1
            clear hv1
            go_wp2_with fail
            refine (wide_any _ ns hl hs hlh HM2.out a4 c4 w.heap.size _ (hHs1.later hbw4) HB4.out (hN1.later hbw4)).mono ?_
            rintro e w5 ⟨rfl, hb5⟩
            have HE : Hid (marksE ns xs bs hs = if hs.any (fun x => wdOf ns x != 1) then 1 else 0) := by
              unfold marksE; rw [HL.out, HV.out, HM1.out, HM2.out, HV1.out]; rfl
            cases hv2 : hs.any (fun x => wdOf ns x != 1)
            · rw [hv2] at HE
              go_wp2
              go_ret
              exact ⟨ret_int HE.out.symm, bthen hbw1 (bthen hbw4 hb5)⟩
            · rw [hv2] at HE
              go_wp2
              go_ret
              exact ⟨ret_int HE.out.symm, bthen hbw1 (bthen hbw4 hb5)⟩
          · have HE : Hid (marksE ns xs bs hs = 1) := by
              unfold marksE; rw [HL.out, HV.out, HM1.out, HM2.out, hv1]; rfl
            clear hv1
            go_wp2
            go_ret
            exact ⟨ret_int HE.out.symm, bthen hbw1 hbw4⟩
        · have HE : Hid (marksE ns xs bs hs = 5) := by
            unfold marksE; rw [HL.out, HV.out, hm1, hm2]; rfl
          clear hm1 hm2
          go_wp2
          go_ret
          exact ⟨ret_int HE.out.symm, bthen hbw1 hbw3⟩
      · have HE : Hid (marksE ns xs bs hs = 5) := by
          unfold marksE; rw [HL.out, HV.out, hm1]; rfl
        clear hm1
        go_wp2
        go_ret
        exact ⟨ret_int HE.out.symm, bthen hbw1 hbw2⟩

end Go.Proofs.YtfobcnhibhbbaaaGreatDoor.Ev
