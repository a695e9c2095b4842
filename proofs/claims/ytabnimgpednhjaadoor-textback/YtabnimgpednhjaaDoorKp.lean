/- SameModel, of models that are the same. -/
import Derived.Test.YtabnimgpednhjaaDoorNeM
import Derived.Test.YtabnimgpednhjaaDoorMn
import Derived.Laws.StructEq
namespace Go.Proofs.YtabnimgpednhjaaDoor.Ev
open Go.RowKit
set_option maxRecDepth 100000

set_option maxHeartbeats 2000000 in
theorem samePairs_eq (p q : Option Addr) (cp cq : Nat) (l : List (Int × Int)) (hl : l.length ≤ 8796093022208) (w : World) (hP : PairsAt w p l) (hQ : PairsAt w q l) :
    Calls Tryd.prog 16 #[.slice p l.length cp, .slice q l.length cq] w fun e w' => e = .returned (.bool true) ∧ Below w.heap.size w w' := by
  have hne : ((l.length : Int) != (l.length : Int)) = false := by simp
  go_enter Tryd.func16, Tryd.ntmps16
  go_wp2
  go_loopw [5] (fun i wr => ∃ k : Nat, k ≤ l.length ∧ i = .int .i64 k ∧ Below w.heap.size w wr) (fun i _ => l.length - (intOf i).toNat)
  case atStart => exact ⟨0, Nat.zero_le _, rfl, Below.refl _ _⟩
  case round =>
    obtain ⟨k, hk, rfl, hbw⟩ := hrel
    by_cases hlt : k < l.length
    · obtain ⟨b, off, rfl, hc⟩ := (hP.later hbw) (by omega)
      obtain ⟨b2, off2, rfl, hc2⟩ := (hQ.later hbw) (by omega)
      obtain ⟨d0, d1⟩ := hc k hlt
      obtain ⟨d2, d3⟩ := hc2 k hlt
      have hi1 : (k : Int) < (l.length : Int) := by omega
      clear hc hc2
      generalize l[k] = x at *
      obtain ⟨x, y⟩ := x
      simp only at d0 d1 d2 d3
      go_wp2
      go_quiet (fail)
      go_wp2
      go_roundw
      case rel => exact ⟨k + 1, by omega, by go_num, below_drewN hbw _⟩
      case measure => simp [intOf]; omega
    · obtain rfl : k = l.length := by omega
      have hki : ¬ (l.length : Int) < (l.length : Int) := by omega
      go_wp2
      go_ret
      exact ⟨rfl, hbw⟩

set_option maxHeartbeats 4000000 in
theorem sameModel_eq (a0 a1 a2 a3 a4 b0 b1 b2 b3 b4 : Option Addr) (c0 c1 c2 c3 c4 e0 e1 e2 e3 e4 : Nat) (ns : List Nd) (is xs : List (Int × Int)) (bs hs : List Int) (hln : ns.length ≤ maxLen) (hli : is.length ≤ 8796093022208) (hlx : xs.length ≤ 8796093022208) (hlb : bs.length ≤ maxLen) (hlh : hs.length ≤ maxLen) (w : World)
    (hN : NodesAt w a0 ns) (hI : PairsAt w a1 is) (hX : PairsAt w a2 xs) (hB : IntsAt w a3 bs) (hH : IntsAt w a4 hs)
    (gN : NodesAt w b0 ns) (gI : PairsAt w b1 is) (gX : PairsAt w b2 xs) (gB : IntsAt w b3 bs) (gH : IntsAt w b4 hs) :
    Calls Tryd.prog 7 #[Mv.val ⟨a0, c0, a1, is.length, c1, a2, xs.length, c2, a3, bs.length, c3, a4, hs.length, c4⟩ ns.length, Mv.val ⟨b0, e0, b1, is.length, e1, b2, xs.length, e2, b3, bs.length, e3, b4, hs.length, e4⟩ ns.length] w fun e w' => e = .returned (.bool true) ∧ Below w.heap.size w w' := by
  have HI := hide (fun w' (hb : Below w.heap.size w w') => samePairs_eq a1 b1 c1 e1 is hli w' (hI.later hb) (gI.later hb))
  have HX := hide (fun w' (hb : Below w.heap.size w w') => samePairs_eq a2 b2 c2 e2 xs hlx w' (hX.later hb) (gX.later hb))
  have HB := hide (fun w' (hb : Below w.heap.size w w') => by have h := sameInts_any a3 b3 c3 e3 bs bs hlb hlb w' (hB.later hb) (gB.later hb); rw [decide_eq_true (show bs = bs from rfl)] at h; exact h)
  have HH := hide (fun w' (hb : Below w.heap.size w w') => by have h := sameInts_any a4 b4 c4 e4 hs hs hlh hlh w' (hH.later hb) (gH.later hb); rw [decide_eq_true (show hs = hs from rfl)] at h; exact h)
  have HN := hide hN
  have GN := hide gN
  unfold maxLen at hln
  have hne : ((ns.length : Int) != (ns.length : Int)) = false := by simp
  have hB0 : Below w.heap.size w ((w.alloc (.cells (Mv.cells ⟨a0, c0, a1, is.length, c1, a2, xs.length, c2, a3, bs.length, c3, a4, hs.length, c4⟩ ns.length) 26)).alloc (.cells (Mv.cells ⟨b0, e0, b1, is.length, e1, b2, xs.length, e2, b3, bs.length, e3, b4, hs.length, e4⟩ ns.length) 26)) := bal (bal (Below.refl _ _) _) _
  have hc : ∀ W : World, W = ((w.alloc (.cells (Mv.cells ⟨a0, c0, a1, is.length, c1, a2, xs.length, c2, a3, bs.length, c3, a4, hs.length, c4⟩ ns.length) 26)).alloc (.cells (Mv.cells ⟨b0, e0, b1, is.length, e1, b2, xs.length, e2, b3, bs.length, e3, b4, hs.length, e4⟩ ns.length) 26)) →
      (W.cell? ⟨w.heap.size, 0, none⟩ = some (.slice a0 ns.length c0) ∧ W.cell? ⟨w.heap.size, 2, none⟩ = some (.slice a2 xs.length c2) ∧ W.cell? ⟨w.heap.size, 3, none⟩ = some (.slice a3 bs.length c3) ∧ W.cell? ⟨w.heap.size, 4, none⟩ = some (.slice a4 hs.length c4)) ∧
      (W.cell? ⟨w.heap.size + 1, 0, none⟩ = some (.slice b0 ns.length e0) ∧ W.cell? ⟨w.heap.size + 1, 2, none⟩ = some (.slice b2 xs.length e2) ∧ W.cell? ⟨w.heap.size + 1, 3, none⟩ = some (.slice b3 bs.length e3) ∧ W.cell? ⟨w.heap.size + 1, 4, none⟩ = some (.slice b4 hs.length e4)) := by
    rintro W rfl
    simp [go_sem, Mv.cells]
  obtain ⟨⟨x0, x2, x3, x4⟩, ⟨y0, y2, y3, y4⟩⟩ := hc _ rfl
  have HC1 := hide (HI.out _ hB0)
  clear hN hI hX hB hH gN gI gX gB gH hc
  go_enter Tryd.func7, Tryd.ntmps7
  go_wp2_with fail
  refine HC1.out.mono ?_
  rintro e w1 ⟨rfl, hb1⟩
  have HB1 := hide (bthen hB0 hb1)
  replace x0 := cell_later hb1 x0
  replace x2 := cell_later hb1 x2
  replace x3 := cell_later hb1 x3
  replace x4 := cell_later hb1 x4
  replace y0 := cell_later hb1 y0
  replace y2 := cell_later hb1 y2
  replace y3 := cell_later hb1 y3
  replace y4 := cell_later hb1 y4
  clear hb1 hB0 HC1 HI
  have HC2 := hide (HX.out _ HB1.out)
  go_wp2_with fail
  refine HC2.out.mono ?_
  rintro e w2 ⟨rfl, hb2⟩
  have HB2 := hide (bthen HB1.out hb2)
  replace x0 := cell_later hb2 x0
  replace x3 := cell_later hb2 x3
  replace x4 := cell_later hb2 x4
  replace y0 := cell_later hb2 y0
  replace y3 := cell_later hb2 y3
  replace y4 := cell_later hb2 y4
  clear hb2 HB1 HC2 HX x2 y2
  have HC3 := hide (HB.out _ HB2.out)
  go_wp2_with fail
  refine HC3.out.mono ?_
  rintro e w3 ⟨rfl, hb3⟩
  have HB3 := hide (bthen HB2.out hb3)
  replace x0 := cell_later hb3 x0
  replace x4 := cell_later hb3 x4
  replace y0 := cell_later hb3 y0
  replace y4 := cell_later hb3 y4
  clear hb3 HB2 HC3 HB x3 y3
  have HC4 := hide (HH.out _ HB3.out)
  go_wp2_with fail
  refine HC4.out.mono ?_
  rintro e w4 ⟨rfl, hb4⟩
  have HB4 := hide (bthen HB3.out hb4)
  replace x0 := cell_later hb4 x0
  replace y0 := cell_later hb4 y0
  clear hb4 HB3 HC4 HH x4 y4
  go_wp2
  go_loopw [5] (fun i wr => ∃ k : Nat, k ≤ ns.length ∧ i = .int .i64 k ∧ Below w4.heap.size w4 wr) (fun i _ => ns.length - (intOf i).toNat)
  case atStart => exact ⟨0, Nat.zero_le _, rfl, Below.refl _ _⟩
  case round =>
    obtain ⟨k, hk, rfl, hbw⟩ := hrel
    have z0 := cell_later hbw x0
    have z1 := cell_later hbw y0
    clear x0 y0
    by_cases hlt : k < ns.length
    · have hwr := bthen HB4.out hbw
      obtain ⟨b, off, rfl, hc⟩ := (HN.out.later hwr) (by omega)
      obtain ⟨b2, off2, rfl, hc2⟩ := (GN.out.later hwr) (by omega)
      obtain ⟨d0, d1, d2, d3, d4, d5⟩ := hc k hlt
      obtain ⟨f0, f1, f2, f3, f4, f5⟩ := hc2 k hlt
      have hi1 : (k : Int) < (ns.length : Int) := by omega
      clear hc hc2 hwr HN GN
      generalize ns[k] = x at *
      obtain ⟨x0, x1, x2, x3, x4, x5⟩ := x
      simp only at d0 d1 d2 d3 d4 d5 f0 f1 f2 f3 f4 f5
      go_wp2
      go_quiet (fail)
      go_wp2
      go_roundw
      case rel => exact ⟨k + 1, by omega, by go_num, below_drewN hbw _⟩
      case measure => simp [intOf]; omega
    · obtain rfl : k = ns.length := by omega
      have hki : ¬ (ns.length : Int) < (ns.length : Int) := by omega
      go_wp2
      go_ret
      exact ⟨rfl, bthen HB4.out hbw⟩
end Go.Proofs.YtabnimgpednhjaaDoor.Ev
