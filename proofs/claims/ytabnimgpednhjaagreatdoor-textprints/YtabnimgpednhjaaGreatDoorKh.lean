/- TextPrints' walk. -/
import Derived.Test.YtabnimgpednhjaaGreatDoorKfM
import Derived.Test.YtabnimgpednhjaaGreatDoorKg
import Derived.Test.YtabnimgpednhjaaGreatDoorJj
import Derived.Test.YtabnimgpednhjaaGreatDoorNi
namespace Go.Proofs.YtabnimgpednhjaaGreatDoor
open Go.RowKit Go.Deep
set_option maxRecDepth 100000

set_option maxHeartbeats 8000000 in
theorem textPrints_walk (a0 a1 a2 a3 a4 : Option Addr) (c0 c1 c2 c3 c4 : Nat) (ns : List Ev.Nd) (is xs : List (Int × Int)) (bs hs : List Int) (hln : ns.length ≤ maxLen) (hli : is.length ≤ 8796093022208) (hlx : xs.length ≤ 8796093022208) (hlb : bs.length ≤ maxLen) (hlh : hs.length ≤ maxLen) (hn3 : a3 = none → c3 = 0) (hn4 : a4 = none → c4 = 0) (mx : Int) (w : World)
    (hN : Ev.NodesAt w a0 ns) (hI : Ev.PairsAt w a1 is) (hX : Ev.PairsAt w a2 xs) (hBs : Ev.IntsAt w a3 bs) (hHs : Ev.IntsAt w a4 hs) (hm : w.cell? ⟨2, 0, none⟩ = some (.int .i64 mx)) (hKW : KW w) (hSW : SW w) (ht : Pow w) :
    Calls Tryz.prog 3 #[Ev.Mv.val ⟨a0, c0, a1, is.length, c1, a2, xs.length, c2, a3, bs.length, c3, a4, hs.length, c4⟩ ns.length] w fun e w' => e = .returned (.bool true) ∧ Below w.heap.size w w' := by
  have hsm := fun (h : Ev.checkE ns is xs bs hs = 0) => model_facts h
  have HTB := hide (fun w' (hb : Below w.heap.size w w') => textBegun_any mx w' (cell_later hb hm) (hSW.later hb) (hKW.later hb) (tab_later ht hb))
  have HPR := hide (fun w' (hb : Below w.heap.size w w') => print_any a0 a1 a2 a3 a4 c0 c1 c2 c3 c4 ns is xs bs hs hln hli hlx hlb hlh (fun h => (hsm h).ok) (fun h n hn => by have := (hsm h).bs n hn; omega) (fun h n hn => by have := (hsm h).hs n hn; omega) w' (hN.later hb) (hI.later hb) (hX.later hb) (hBs.later hb) (hHs.later hb) (hKW.later hb) (hSW.later hb) (tab_later ht hb))
  have HCM := hide (fun w' (hb : Below w.heap.size w w') => Ev.checkModelR_any a0 a1 a2 a3 a4 c0 c1 c2 c3 c4 ns is xs bs hs hln hli hlx hlb hlh hn3 hn4 w' (hN.later hb) (hI.later hb) (hX.later hb) (hBs.later hb) (hHs.later hb))
  have HPP := hide (fun (h : Ev.checkE ns is xs bs hs = 0) w' (hb : Below w.heap.size w w') => plainPrint_any a0 a1 a2 a3 a4 c0 c1 c2 c3 c4 ns is xs bs hs h (hsm h).ok (fun n hn => by have := (hsm h).bs n hn; omega) (fun n hn => by have := (hsm h).hs n hn; omega) w' (hN.later hb) (hI.later hb) (hX.later hb) (hBs.later hb) (hHs.later hb))
  have hB0 : Below w.heap.size w (w.alloc (.cells (Ev.Mv.cells ⟨a0, c0, a1, is.length, c1, a2, xs.length, c2, a3, bs.length, c3, a4, hs.length, c4⟩ ns.length) 26)) := bal (Below.refl _ _) _
  have hbox := Ev.Box.new w ⟨a0, c0, a1, is.length, c1, a2, xs.length, c2, a3, bs.length, c3, a4, hs.length, c4⟩ ns.length
  simp only [Ev.Box] at hbox
  obtain ⟨q0, q1, q2, q3, q4⟩ := hbox
  have HMT : Hid (bsT (modelT ns is xs bs hs) = ⟨(modelT ns is xs bs hs).toArray⟩) := rfl
  unfold Ev.Mv.val at HPR HCM HPP
  clear hN hI hX hBs hHs hm hKW hSW ht hsm hn3 hn4
  generalize modelT ns is xs bs hs = MT at *
  generalize Ev.checkE ns is xs bs hs = ce at *
  go_enter Tryz.func3, Tryz.ntmps3
  go_wp2_with fail
  refine (HPR.out _ hB0).mono ?_
  rintro e w1 ⟨T, rfl, hT0, hT1, hb1⟩
  have HB1 := hide (belowAl hB0 hb1)
  replace q0 := cell_later hb1 q0
  replace q1 := cell_later hb1 q1
  replace q2 := cell_later hb1 q2
  replace q3 := cell_later hb1 q3
  replace q4 := cell_later hb1 q4
  have HT0 := hide hT0
  have HT1 := hide hT1
  clear hb1 hB0 HPR hT0 hT1
  have HC2 := hide (HCM.out _ HB1.out)
  go_wp2_with fail
  refine HC2.out.mono ?_
  rintro e w2 ⟨rfl, hb2⟩
  have HB2 := hide (belowAl HB1.out hb2)
  replace q0 := cell_later hb2 q0
  replace q1 := cell_later hb2 q1
  replace q2 := cell_later hb2 q2
  replace q3 := cell_later hb2 q3
  replace q4 := cell_later hb2 q4
  clear hb2 HB1 HCM HC2
  by_cases hce : ce = 0
  · subst hce
    have hT := HT0.out rfl
    subst hT
    have HC3 := hide (HPP.out rfl _ HB2.out)
    rw [HMT.out] at HC3
    clear HT0 HT1 HPP HMT
    go_wp2_with fail
    refine HC3.out.mono ?_
    rintro e w3 ⟨rfl, hb3⟩
    have HB3 := hide (belowAl HB2.out hb3)
    have HC4 := hide (HTB.out _ HB3.out)
    clear hb3 HB2 HC3 HTB q0 q1 q2 q3 q4
    go_wp2_with fail
    refine HC4.out.mono ?_
    rintro e w4 ⟨rfl, hb4⟩
    have HB4 := hide (belowAl HB3.out hb4)
    clear hb4 HB3 HC4
    go_wp2
    go_ret
    exact ⟨rfl, HB4.out⟩
  · have hT := HT1.out hce
    subst hT
    have hne : (ce == 0) = false := by simpa using hce
    have HC4 := hide (HTB.out _ HB2.out)
    clear HT0 HT1 HPP HMT HTB q0 q1 q2 q3 q4
    go_wp2_with fail
    refine HC4.out.mono ?_
    rintro e w4 ⟨rfl, hb4⟩
    have HB4 := hide (belowAl HB2.out hb4)
    clear hb4 HB2 HC4
    go_wp2
    go_ret
    exact ⟨rfl, HB4.out⟩
end Go.Proofs.YtabnimgpednhjaaGreatDoor
