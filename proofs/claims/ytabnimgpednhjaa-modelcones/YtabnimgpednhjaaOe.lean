/- The cone is what the plain text says: the law's walk. -/
import Derived.Test.YtabnimgpednhjaaNf
import Derived.Test.YtabnimgpednhjaaNq
import Derived.Test.YtabnimgpednhjaaOc
namespace Go.Proofs.Ytabnimgpednhjaa
open Go.RowKit

/-- Both lists are one. -/
theorem cone_same {ns : List Nd} {is xs : List (Int × Int)} {bs hs rs l x : List Int} (hck : checkE ns is xs bs hs = 0) (hC : ConeIs ns is xs rs (coneE ns is xs bs hs rs) l) (hO : ConeOk ns is xs rs true x) : coneE ns is xs bs hs rs = 0 ∧ l = x ∧ l.length ≤ 80 := by
  obtain ⟨h1, S, rfl, hS⟩ := hO.1 rfl
  have h0 : coneE ns is xs bs hs rs = 0 := coneE_ok hck (fun r hr => isN_true.1 (h1 r hr))
  unfold ConeIs at hC
  rw [if_pos h0] at hC
  obtain ⟨T, rfl, hT⟩ := hC
  exact ⟨h0, cone_one hT hS, Nat.le_trans (sel_len _ _) (check_zero hck).1.1⟩

theorem cone_none {ns : List Nd} {is xs : List (Int × Int)} {bs hs rs l x : List Int} (hck : checkE ns is xs bs hs = 0) (hC : ConeIs ns is xs rs (coneE ns is xs bs hs rs) l) (hO : ConeOk ns is xs rs false x) : coneE ns is xs bs hs rs = 5 ∧ l = [] := by
  obtain ⟨_, h1⟩ := hO.2 rfl
  have h0 : coneE ns is xs bs hs rs = 5 := by unfold coneE; rw [if_neg (by simp [hck]), if_pos h1]
  unfold ConeIs at hC
  rw [if_neg (by rw [h0]; omega)] at hC
  exact ⟨h0, hC⟩

theorem cone_err {ns : List Nd} {is xs : List (Int × Int)} {bs hs rs l : List Int} (hck : checkE ns is xs bs hs ≠ 0) (hC : ConeIs ns is xs rs (coneE ns is xs bs hs rs) l) : coneE ns is xs bs hs rs = checkE ns is xs bs hs ∧ l = [] := by
  have h0 : coneE ns is xs bs hs rs = checkE ns is xs bs hs := by unfold coneE; rw [if_pos hck]
  unfold ConeIs at hC
  rw [if_neg (by rw [h0]; exact hck)] at hC
  exact ⟨h0, hC⟩

theorem listB_none (e : Int) : listB [] e e [] = true := by
  unfold listB; split <;> simp
theorem listB_same (l : List Int) : listB l 0 0 l = true := by
  unfold listB; simp

set_option maxRecDepth 100000 in
set_option maxHeartbeats 4000000 in
theorem cones_walk (a0 a1 a2 a3 a4 : Option Addr) (c0 c1 c2 c3 c4 : Nat) (ns : List Nd) (is xs : List (Int × Int)) (bs hs : List Int) (hln : ns.length ≤ 2932031007402) (hli : is.length ≤ 8796093022208) (hlx : xs.length ≤ 8796093022208) (hlb : bs.length ≤ maxLen) (hlh : hs.length ≤ maxLen) (hn3 : a3 = none → c3 = 0) (hn4 : a4 = none → c4 = 0)
    (rs : List Int) (pr : Option Addr) (cr : Nat) (hlr : rs.length ≤ 17592186044000) (w : World)
    (hN : NodesAt w a0 ns) (hI : PairsAt w a1 is) (hX : PairsAt w a2 xs) (hBs : IntsAt w a3 bs) (hHs : IntsAt w a4 hs) (hRs : IntsAt w pr rs) :
    Calls Try.prog 7 #[Mv.val ⟨a0, c0, a1, is.length, c1, a2, xs.length, c2, a3, bs.length, c3, a4, hs.length, c4⟩ ns.length, .slice pr rs.length cr] w fun e w' => e = .returned (.bool true) ∧ Below w.heap.size w w' := by
  have HB0 : Hid (Below w.heap.size w (w.alloc (.cells (Mv.cells ⟨a0, c0, a1, is.length, c1, a2, xs.length, c2, a3, bs.length, c3, a4, hs.length, c4⟩ ns.length) 40))) := bal (Below.refl _ _) _
  have HBx := hide (Box.new w ⟨a0, c0, a1, is.length, c1, a2, xs.length, c2, a3, bs.length, c3, a4, hs.length, c4⟩ ns.length)
  have hlm : ns.length ≤ maxLen := by unfold maxLen; omega
  have HCN := hide (fun (w1 : World) (hb : Below w.heap.size w w1) => cone_any a0 a1 a2 a3 a4 c0 c1 c2 c3 c4 ns is xs bs hs hlm hli hlx hlb hlh rs pr cr hlr w1 (hN.later hb) (hI.later hb) (hX.later hb) (hBs.later hb) (hHs.later hb) (hRs.later hb))
  have HKM := hide (fun (w1 : World) (hb : Below w.heap.size w w1) => checkModelR_any a0 a1 a2 a3 a4 c0 c1 c2 c3 c4 ns is xs bs hs hlm hli hlx hlb hlh hn3 hn4 w1 (hN.later hb) (hI.later hb) (hX.later hb) (hBs.later hb) (hHs.later hb))
  have HCO := hide (fun (hck : checkE ns is xs bs hs = 0) (w1 : World) (hb : Below w.heap.size w w1) => coneOf_any a0 a1 a2 a3 a4 c0 c1 c2 c3 c4 ns is xs bs hs hck hli hlx rs pr cr hlr w1 (hN.later hb) (hI.later hb) (hX.later hb) (hRs.later hb))
  clear hN hI hX hBs hHs hRs hlm
  go_enter Try.func7, Try.ntmps7
  go_wp2_with fail
  refine (HCN.out _ HB0.out).mono ?_
  rintro e w1 ⟨p1, k1, l, rfl, hC, hJ1, hb1⟩
  have HB1 := hide (bthen HB0.out hb1)
  have HX1 := hide (HBx.out.later hb1)
  have HJ1 := hide hJ1
  have HC := hide hC
  clear hb1 HB0 HBx hJ1 HCN hC
  have hbox := HX1.out
  simp only [Box] at hbox
  obtain ⟨q0, q1, q2, q3, q4⟩ := hbox
  go_wp2_with fail
  refine (HKM.out _ HB1.out).mono ?_
  rintro e w2 ⟨rfl, hb2⟩
  have HB2 := hide (bthen HB1.out hb2)
  have HX2 := hide (HX1.out.later hb2)
  have HJ2 := hide (HJ1.out.later hb2)
  clear hb2 HB1 HX1 HKM HJ1 q0 q1 q2 q3 q4
  have hbox := HX2.out
  simp only [Box] at hbox
  obtain ⟨q0, q1, q2, q3, q4⟩ := hbox
  by_cases hce : checkE ns is xs bs hs = 0
  · have HK := hide (HCO.out hce)
    have HYes := hide (fun (x : List Int) (h : ConeOk ns is xs rs true x) => cone_same hce HC.out h)
    have HNo := hide (fun (x : List Int) (h : ConeOk ns is xs rs false x) => cone_none hce HC.out h)
    rw [hce]
    clear HCO hce HC
    go_wp2_with fail
    refine (HK.out _ HB2.out).mono ?_
    rintro e w3 ⟨p3, k3, x, ok, rfl, hO, hJ3, hb3⟩
    have HB3 := hide (bthen HB2.out hb3)
    have HJ3 := hide (HJ2.out.later hb3)
    have HJ4 := hide hJ3
    clear hb3 hJ3 HK HB2 HX2 q0 q1 q2 q3 q4
    cases ok
    · obtain ⟨h5, rfl⟩ := HNo.out x hO
      rw [h5]
      clear HYes HNo hO h5 HJ4
      go_wp2_with fail
      refine (modelBegun_any _).mono ?_
      rintro e w4 ⟨rfl, hb4⟩
      have HLI := hide (fun _ : Unit => listIs_any p1 none k1 0 [] [] 5 5 (by simp) (by simp) w4 (HJ3.out.later hb4) (fun h => by simp at h))
      rw [listB_none] at HLI
      have HB4 := hide (bthen HB3.out hb4)
      clear hb4 HJ3
      go_wp2_with fail
      refine (HLI.out ()).mono ?_
      rintro e w5 ⟨rfl, hb5⟩
      go_wp2
      go_ret
      exact ⟨rfl, bthen HB4.out hb5⟩
    · obtain ⟨h5, rfl, hll⟩ := HYes.out x hO
      rw [h5]
      clear HYes HNo hO h5
      go_wp2_with fail
      refine (modelBegun_any _).mono ?_
      rintro e w4 ⟨rfl, hb4⟩
      have HLI := hide (fun _ : Unit => listIs_any p1 p3 k1 k3 l l 0 0 (by unfold maxLen; omega) (by unfold maxLen; omega) w4 (HJ3.out.later hb4) (HJ4.out.later hb4))
      rw [listB_same] at HLI
      have HB4 := hide (bthen HB3.out hb4)
      clear hb4 HJ3 HJ4
      go_wp2_with fail
      refine (HLI.out ()).mono ?_
      rintro e w5 ⟨rfl, hb5⟩
      go_wp2
      go_ret
      exact ⟨rfl, bthen HB4.out hb5⟩
  · obtain ⟨h5, rfl⟩ := cone_err hce HC.out
    rw [h5]
    have hne : (checkE ns is xs bs hs == 0) = false := by simp [hce]
    generalize checkE ns is xs bs hs = ce at *
    clear HCO hce HC h5
    go_wp2_with fail
    refine (modelBegun_any _).mono ?_
    rintro e w4 ⟨rfl, hb4⟩
    have HLI := hide (fun _ : Unit => listIs_any p1 none k1 0 [] [] ce ce (by simp) (by simp) w4 (HJ2.out.later hb4) (fun h => by simp at h))
    rw [listB_none] at HLI
    have HB4 := hide (bthen HB2.out hb4)
    clear hb4 HJ2
    go_wp2_with fail
    refine (HLI.out ()).mono ?_
    rintro e w5 ⟨rfl, hb5⟩
    go_wp2
    go_ret
    exact ⟨rfl, bthen HB4.out hb5⟩

end Go.Proofs.Ytabnimgpednhjaa
