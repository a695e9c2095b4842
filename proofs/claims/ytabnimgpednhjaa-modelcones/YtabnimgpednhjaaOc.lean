/- A cone's cone is it: the law's walk. -/
import Derived.Test.YtabnimgpednhjaaNl
import Derived.Test.YtabnimgpednhjaaOb
namespace Go.Proofs.Ytabnimgpednhjaa
open Go.RowKit

theorem coneE_zero {ns : List Nd} {is xs : List (Int × Int)} {bs hs rs : List Int} (h : coneE ns is xs bs hs rs = 0) : checkE ns is xs bs hs = 0 ∧ ∀ r ∈ rs, 0 ≤ r ∧ r < ns.length := by
  unfold coneE at h
  by_cases h1 : checkE ns is xs bs hs = 0
  · rw [if_neg (by simp [h1])] at h
    refine ⟨h1, fun r hr => ?_⟩
    by_cases h2 : rs.any (fun x => !isN ns.length x) = true
    · rw [if_pos h2] at h; omega
    · have := List.any_eq_false.1 ((Bool.not_eq_true _).mp h2) r hr
      exact isN_true.1 (by simpa using this)
  · rw [if_pos h1] at h; exact absurd h h1

theorem coneE_ok {ns : List Nd} {is xs : List (Int × Int)} {bs hs rs : List Int} (h : checkE ns is xs bs hs = 0) (hr : ∀ r ∈ rs, 0 ≤ r ∧ r < ns.length) : coneE ns is xs bs hs rs = 0 := by
  unfold coneE
  rw [if_neg (by simp [h]), if_neg]
  rw [Bool.not_eq_true, List.any_eq_false]
  intro r h1
  have := isN_true.2 (hr r h1)
  simp [this]

/-- All that is told of a cone of which 0 is told. -/
theorem cone_facts {ns : List Nd} {is xs : List (Int × Int)} {bs hs rs l : List Int} (h0 : coneE ns is xs bs hs rs = 0) (hC : ConeIs ns is xs rs (coneE ns is xs bs hs rs) l) :
    ns.length ≤ 80 ∧ l.length ≤ 80 ∧ (∀ r ∈ rs, l.any (· == r) = true) ∧ (∀ j (h : j + 1 < l.length), l[j] < l[j + 1]) ∧ coneE ns is xs bs hs l = 0 ∧
      (∀ l2, ConeIs ns is xs l (coneE ns is xs bs hs l) l2 → l2 = l) := by
  unfold ConeIs at hC
  rw [if_pos h0] at hC
  obtain ⟨S, rfl, hS⟩ := hC
  obtain ⟨hck, hrs⟩ := coneE_zero h0
  have hn := (check_zero hck).1.1
  have h2 : coneE ns is xs bs hs (sel S ns.length) = 0 := coneE_ok hck (fun r hr => by obtain ⟨i, hi, _, rfl⟩ := mem_sel.1 hr; omega)
  refine ⟨hn, Nat.le_trans (sel_len _ _) hn, ?_, ?_, h2, ?_⟩
  · intro r hr
    have h1 := hrs r hr
    refine List.any_eq_true.2 ⟨r, mem_sel.2 ⟨r.toNat, by omega, hS.root r hr, by omega⟩, by simp⟩
  · intro j h
    exact (List.pairwise_iff_getElem.1 (sel_rises S ns.length)) j (j + 1) (by omega) h (by omega)
  · intro l2 hC2
    unfold ConeIs at hC2
    rw [if_pos h2] at hC2
    obtain ⟨T, rfl, hT⟩ := hC2
    exact cone_again hS hT

set_option maxRecDepth 100000 in
set_option maxHeartbeats 4000000 in
theorem again_walk (a0 a1 a2 a3 a4 : Option Addr) (c0 c1 c2 c3 c4 : Nat) (ns : List Nd) (is xs : List (Int × Int)) (bs hs : List Int) (hln : ns.length ≤ maxLen) (hli : is.length ≤ 8796093022208) (hlx : xs.length ≤ 8796093022208) (hlb : bs.length ≤ maxLen) (hlh : hs.length ≤ maxLen)
    (rs : List Int) (pr : Option Addr) (cr : Nat) (hlr : rs.length ≤ 17592186044000) (w : World)
    (hN : NodesAt w a0 ns) (hI : PairsAt w a1 is) (hX : PairsAt w a2 xs) (hBs : IntsAt w a3 bs) (hHs : IntsAt w a4 hs) (hRs : IntsAt w pr rs) :
    Calls Try.prog 8 #[Mv.val ⟨a0, c0, a1, is.length, c1, a2, xs.length, c2, a3, bs.length, c3, a4, hs.length, c4⟩ ns.length, .slice pr rs.length cr] w fun e w' => e = .returned (.bool true) ∧ Below w.heap.size w w' := by
  have HB0 : Hid (Below w.heap.size w (w.alloc (.cells (Mv.cells ⟨a0, c0, a1, is.length, c1, a2, xs.length, c2, a3, bs.length, c3, a4, hs.length, c4⟩ ns.length) 40))) := bal (Below.refl _ _) _
  have HBx := hide (Box.new w ⟨a0, c0, a1, is.length, c1, a2, xs.length, c2, a3, bs.length, c3, a4, hs.length, c4⟩ ns.length)
  have HCN := hide (fun (rs : List Int) (pr : Option Addr) (cr : Nat) (hlr : rs.length ≤ 17592186044000) (w1 : World) (hb : Below w.heap.size w w1) (hR : IntsAt w1 pr rs) => cone_any a0 a1 a2 a3 a4 c0 c1 c2 c3 c4 ns is xs bs hs hln hli hlx hlb hlh rs pr cr hlr w1 (hN.later hb) (hI.later hb) (hX.later hb) (hBs.later hb) (hHs.later hb) hR)
  have HF := hide (fun (l : List Int) => @cone_facts ns is xs bs hs rs l)
  have HRs := hide hRs
  have HNO : Hid (∀ l, coneE ns is xs bs hs rs ≠ 0 → ConeIs ns is xs rs (coneE ns is xs bs hs rs) l → l = []) := fun l h hC => by unfold ConeIs at hC; rw [if_neg h] at hC; exact hC
  clear hN hI hX hBs hHs hRs
  go_enter Try.func8, Try.ntmps8
  go_wp2_with fail
  refine (modelBegun_any _).mono ?_
  rintro e w1 ⟨rfl, hb1⟩
  have HB1 := hide (bthen HB0.out hb1)
  have HX1 := hide (HBx.out.later hb1)
  have hbox := HX1.out
  simp only [Box] at hbox
  obtain ⟨q0, q1, q2, q3, q4⟩ := hbox
  clear hb1 HB0 HBx
  go_wp2_with fail
  refine (HCN.out rs pr cr hlr w1 HB1.out (HRs.out.later HB1.out)).mono ?_
  rintro e w2 ⟨p, cap, l, rfl, hC, hJ, hb2⟩
  have HB2 := hide (bthen HB1.out hb2)
  have HX2 := hide (HX1.out.later hb2)
  have HC := hide hC
  have HJ := hide hJ
  clear hC hJ hb2 HX1 HB1 q0 q1 q2 q3 q4
  by_cases hco : coneE ns is xs bs hs rs = 0
  · obtain ⟨hn, hll, hh, hr, h2, hag⟩ := HF.out l hco HC.out
    have HH := hide hh
    have HR := hide hr
    have H2 := hide h2
    have HA := hide hag
    rw [hco]
    clear hh hr h2 hag HF HNO hco HC
    go_wp2
    go_loopw [7] (fun i wr => ∃ k : Nat, k ≤ rs.length ∧ i = .int .i64 k ∧ Below w2.heap.size w2 wr) (fun i _ => rs.length - (intOf i).toNat)
    case atStart => exact ⟨0, Nat.zero_le _, rfl, Below.refl _ _⟩
    case round =>
      obtain ⟨k, hk, rfl, hbw⟩ := hrel
      by_cases hlt : k < rs.length
      · obtain ⟨b, off, rfl, hc⟩ := (HRs.out.later (bthen HB2.out hbw)) (by omega)
        have d0 := hc k hlt
        have HHas := hide (fun _ : Unit => has_any p cap l rs[k] (by unfold maxLen; omega) wr (HJ.out.later hbw))
        rw [HH.out rs[k] (List.getElem_mem hlt)] at HHas
        have hkl : (k : Int) < (rs.length : Int) := by omega
        clear hc
        generalize rs[k] = r at *
        go_wp2_with fail
        refine (HHas.out ()).mono ?_
        rintro e w3 ⟨rfl, hb3⟩
        go_wp2
        go_roundw
        case rel => exact ⟨k + 1, by omega, by go_num, bthen hbw hb3⟩
        case measure => simp [intOf]; omega
      · obtain rfl : k = rs.length := by omega
        go_wp2
        go_loopw [8] (fun i wr => ∃ j : Nat, i = .int .i64 ((j + 1 : Nat) : Int) ∧ (j = 0 ∨ j < l.length) ∧ Below w2.heap.size w2 wr) (fun i _ => l.length + 1 - (intOf i).toNat)
        case atStart => exact ⟨0, rfl, .inl rfl, hbw⟩
        case round =>
          obtain ⟨j, rfl, hj, hbw2⟩ := hrel
          by_cases hlt : j + 1 < l.length
          · obtain ⟨b, off, rfl, hc⟩ := (HJ.out.later hbw2) (by omega)
            have d0 := hc j (by omega)
            have d1 := hc (j + 1) hlt
            have hrr := HR.out j hlt
            have hle : decide (l[j + 1] ≤ l[j]) = false := by simp; omega
            have hjl : ((j + 1 : Nat) : Int) < (l.length : Int) := by omega
            have hjl2 : (j : Int) < (l.length : Int) := by omega
            clear hc hbw
            generalize l[j] = x at *
            generalize l[j + 1] = y at *
            go_wp2
            go_quiet (fail)
            go_wp2
            go_roundw
            case rel => exact ⟨j + 1, by go_num, .inr (by omega), below_drewN hbw2 _⟩
            case measure => simp [intOf]; omega
          · have hbox := HX2.out.later hbw2
            simp only [Box] at hbox
            obtain ⟨q0, q1, q2, q3, q4⟩ := hbox
            have HBW := hide (bthen HB2.out hbw2)
            go_wp2_with fail
            refine (HCN.out l p cap (by omega) wr HBW.out (HJ.out.later hbw2)).mono ?_
            rintro e w4 ⟨p4, cap4, l4, rfl, hC4, hJ4, hb4⟩
            obtain rfl := HA.out l4 hC4
            rw [H2.out]
            have HS := hide (fun _ : Unit => sameInts_any p4 p cap4 cap l4 l4 (by unfold maxLen; omega) (by unfold maxLen; omega) w4 hJ4 ((HJ.out.later hbw2).later hb4))
            rw [decide_eq_true rfl] at HS
            have HBW4 := hide (bthen HBW.out hb4)
            clear hC4 hJ4
            go_wp2_with fail
            refine (HS.out ()).mono ?_
            rintro e w5 ⟨rfl, hb5⟩
            go_wp2
            go_ret
            exact ⟨rfl, bthen HBW4.out hb5⟩
  · obtain rfl := HNO.out l hco HC.out
    have hne : (coneE ns is xs bs hs rs != 0) = true := by simp [hco]
    clear HC HF HNO HCN hco
    go_wp2
    go_ret
    exact ⟨rfl, HB2.out⟩

end Go.Proofs.Ytabnimgpednhjaa
