/- SameModel, of models that are the same. -/
import Derived.Test.YtabnimgpednhjaaGreatDoorNhM
import Derived.Test.YtabnimgpednhjaaGreatDoorNaM
import Derived.Laws.StructEq
import Derived.Test.YtabnimgpednhjaaGreatDoorKd
import Derived.Test.YtabnimgpednhjaaGreatDoorJiM
import Derived.Test.YtabnimgpednhjaaGreatDoorJgM
namespace Go.Proofs.YtabnimgpednhjaaGreatDoor.Ev
open Go.RowKit
set_option maxRecDepth 100000

set_option maxHeartbeats 2000000 in
theorem samePairs_eq (p q : Option Addr) (cp cq : Nat) (l : List (Int × Int)) (hl : l.length ≤ 8796093022208) (w : World) (hP : PairsAt w p l) (hQ : PairsAt w q l) :
    Calls Tryz.prog 30 #[.slice p l.length cp, .slice q l.length cq] w fun e w' => e = .returned (.bool true) ∧ Below w.heap.size w w' := by
  have hne : ((l.length : Int) != (l.length : Int)) = false := by simp
  go_enter Tryz.func30, Tryz.ntmps30
  go_wp2
  go_loopw [5] (fun i wr => ∃ k : Nat, k ≤ l.length ∧ i = .int .i64 k ∧ Below w.heap.size w wr) (fun i _ => l.length - (intOf i).toNat)
  case atStart => exact ⟨0, Nat.zero_le _, rfl, Below.refl _ _⟩
  case round =>
    obtain ⟨k, hk, rfl, hbw⟩ := hrel
    by_cases hlt : k < l.length
    · obtain ⟨b, off, rfl, hc⟩ := (hP.later hbw) (by omega)
      obtain ⟨b2, off2, rfl, hc2⟩ := (hQ.later hbw) (by omega)
      obtain ⟨d0, d1⟩ := hc k hlt
      obtain ⟨d2, d3⟩ := hc2 k hlt
      have hi1 : (k : Int) < (l.length : Int) := by omega
      clear hc hc2
      generalize l[k] = x at *
      obtain ⟨x, y⟩ := x
      simp only at d0 d1 d2 d3
      go_wp2
      go_quiet (fail)
      go_wp2
      go_roundw
      case rel => exact ⟨k + 1, by omega, by go_num, below_drewN hbw _⟩
      case measure => simp [intOf]; omega
    · obtain rfl : k = l.length := by omega
      have hki : ¬ (l.length : Int) < (l.length : Int) := by omega
      go_wp2
      go_ret
      exact ⟨rfl, hbw⟩

set_option maxHeartbeats 4000000 in
theorem sameModel_eq (a0 a1 a2 a3 a4 b0 b1 b2 b3 b4 : Option Addr) (c0 c1 c2 c3 c4 e0 e1 e2 e3 e4 : Nat) (ns : List Nd) (is xs : List (Int × Int)) (bs hs : List Int) (hln : ns.length ≤ maxLen) (hli : is.length ≤ 8796093022208) (hlx : xs.length ≤ 8796093022208) (hlb : bs.length ≤ maxLen) (hlh : hs.length ≤ maxLen) (w : World)
    (hN : NodesAt w a0 ns) (hI : PairsAt w a1 is) (hX : PairsAt w a2 xs) (hB : IntsAt w a3 bs) (hH : IntsAt w a4 hs)
    (gN : NodesAt w b0 ns) (gI : PairsAt w b1 is) (gX : PairsAt w b2 xs) (gB : IntsAt w b3 bs) (gH : IntsAt w b4 hs) :
    Calls Tryz.prog 11 #[Mv.val ⟨a0, c0, a1, is.length, c1, a2, xs.length, c2, a3, bs.length, c3, a4, hs.length, c4⟩ ns.length, Mv.val ⟨b0, e0, b1, is.length, e1, b2, xs.length, e2, b3, bs.length, e3, b4, hs.length, e4⟩ ns.length] w fun e w' => e = .returned (.bool true) ∧ Below w.heap.size w w' := by
  have HI := hide (fun w' (hb : Below w.heap.size w w') => samePairs_eq a1 b1 c1 e1 is hli w' (hI.later hb) (gI.later hb))
  have HX := hide (fun w' (hb : Below w.heap.size w w') => samePairs_eq a2 b2 c2 e2 xs hlx w' (hX.later hb) (gX.later hb))
  have HB := hide (fun w' (hb : Below w.heap.size w w') => by have h := sameInts_any a3 b3 c3 e3 bs bs hlb hlb w' (hB.later hb) (gB.later hb); rw [decide_eq_true (show bs = bs from rfl)] at h; exact h)
  have HH := hide (fun w' (hb : Below w.heap.size w w') => by have h := sameInts_any a4 b4 c4 e4 hs hs hlh hlh w' (hH.later hb) (gH.later hb); rw [decide_eq_true (show hs = hs from rfl)] at h; exact h)
  have HN := hide hN
  have GN := hide gN
  unfold maxLen at hln
  have hne : ((ns.length : Int) != (ns.length : Int)) = false := by simp
  have hB0 : Below w.heap.size w ((w.alloc (.cells (Mv.cells ⟨a0, c0, a1, is.length, c1, a2, xs.length, c2, a3, bs.length, c3, a4, hs.length, c4⟩ ns.length) 26)).alloc (.cells (Mv.cells ⟨b0, e0, b1, is.length, e1, b2, xs.length, e2, b3, bs.length, e3, b4, hs.length, e4⟩ ns.length) 26)) := bal (bal (Below.refl _ _) _) _
  have hc : ∀ W : World, W = ((w.alloc (.cells (Mv.cells ⟨a0, c0, a1, is.length, c1, a2, xs.length, c2, a3, bs.length, c3, a4, hs.length, c4⟩ ns.length) 26)).alloc (.cells (Mv.cells ⟨b0, e0, b1, is.length, e1, b2, xs.length, e2, b3, bs.length, e3, b4, hs.length, e4⟩ ns.length) 26)) →
      (W.cell? ⟨w.heap.size, 0, none⟩ = some (.slice a0 ns.length c0) ∧ W.cell? ⟨w.heap.size, 2, none⟩ = some (.slice a2 xs.length c2) ∧ W.cell? ⟨w.heap.size, 3, none⟩ = some (.slice a3 bs.length c3) ∧ W.cell? ⟨w.heap.size, 4, none⟩ = some (.slice a4 hs.length c4)) ∧
      (W.cell? ⟨w.heap.size + 1, 0, none⟩ = some (.slice b0 ns.length e0) ∧ W.cell? ⟨w.heap.size + 1, 2, none⟩ = some (.slice b2 xs.length e2) ∧ W.cell? ⟨w.heap.size + 1, 3, none⟩ = some (.slice b3 bs.length e3) ∧ W.cell? ⟨w.heap.size + 1, 4, none⟩ = some (.slice b4 hs.length e4)) := by
    rintro W rfl
    simp [go_sem, Mv.cells]
  obtain ⟨⟨x0, x2, x3, x4⟩, ⟨y0, y2, y3, y4⟩⟩ := hc _ rfl
  have HC1 := hide (HI.out _ hB0)
  clear hN hI hX hB hH gN gI gX gB gH hc
  go_enter Tryz.func11, Tryz.ntmps11
  go_wp2_with fail
  refine HC1.out.mono ?_
  rintro e w1 ⟨rfl, hb1⟩
  have HB1 := hide (bthen hB0 hb1)
  replace x0 := cell_later hb1 x0
  replace x2 := cell_later hb1 x2
  replace x3 := cell_later hb1 x3
  replace x4 := cell_later hb1 x4
  replace y0 := cell_later hb1 y0
  replace y2 := cell_later hb1 y2
  replace y3 := cell_later hb1 y3
  replace y4 := cell_later hb1 y4
  clear hb1 hB0 HC1 HI
  have HC2 := hide (HX.out _ HB1.out)
  go_wp2_with fail
  refine HC2.out.mono ?_
  rintro e w2 ⟨rfl, hb2⟩
  have HB2 := hide (bthen HB1.out hb2)
  replace x0 := cell_later hb2 x0
  replace x3 := cell_later hb2 x3
  replace x4 := cell_later hb2 x4
  replace y0 := cell_later hb2 y0
  replace y3 := cell_later hb2 y3
  replace y4 := cell_later hb2 y4
  clear hb2 HB1 HC2 HX x2 y2
  have HC3 := hide (HB.out _ HB2.out)
  go_wp2_with fail
  refine HC3.out.mono ?_
  rintro e w3 ⟨rfl, hb3⟩
  have HB3 := hide (bthen HB2.out hb3)
  replace x0 := cell_later hb3 x0
  replace x4 := cell_later hb3 x4
  replace y0 := cell_later hb3 y0
  replace y4 := cell_later hb3 y4
  clear hb3 HB2 HC3 HB x3 y3
  have HC4 := hide (HH.out _ HB3.out)
  go_wp2_with fail
  refine HC4.out.mono ?_
  rintro e w4 ⟨rfl, hb4⟩
  have HB4 := hide (bthen HB3.out hb4)
  replace x0 := cell_later hb4 x0
  replace y0 := cell_later hb4 y0
  clear hb4 HB3 HC4 HH x4 y4
  go_wp2
  go_loopw [5] (fun i wr => ∃ k : Nat, k ≤ ns.length ∧ i = .int .i64 k ∧ Below w4.heap.size w4 wr) (fun i _ => ns.length - (intOf i).toNat)
  case atStart => exact ⟨0, Nat.zero_le _, rfl, Below.refl _ _⟩
  case round =>
    obtain ⟨k, hk, rfl, hbw⟩ := hrel
    have z0 := cell_later hbw x0
    have z1 := cell_later hbw y0
    clear x0 y0
    by_cases hlt : k < ns.length
    · have hwr := bthen HB4.out hbw
      obtain ⟨b, off, rfl, hc⟩ := (HN.out.later hwr) (by omega)
      obtain ⟨b2, off2, rfl, hc2⟩ := (GN.out.later hwr) (by omega)
      obtain ⟨d0, d1, d2, d3, d4, d5⟩ := hc k hlt
      obtain ⟨f0, f1, f2, f3, f4, f5⟩ := hc2 k hlt
      have hi1 : (k : Int) < (ns.length : Int) := by omega
      clear hc hc2 hwr HN GN
      generalize ns[k] = x at *
      obtain ⟨x0, x1, x2, x3, x4, x5⟩ := x
      simp only at d0 d1 d2 d3 d4 d5 f0 f1 f2 f3 f4 f5
      go_wp2
      go_quiet (fail)
      go_wp2
      go_roundw
      case rel => exact ⟨k + 1, by omega, by go_num, below_drewN hbw _⟩
      case measure => simp [intOf]; omega
    · obtain rfl : k = ns.length := by omega
      have hki : ¬ (ns.length : Int) < (ns.length : Int) := by omega
      go_wp2
      go_ret
      exact ⟨rfl, bthen HB4.out hbw⟩
end Go.Proofs.YtabnimgpednhjaaGreatDoor.Ev

namespace Go.Proofs.YtabnimgpednhjaaGreatDoor.Ev
open Go.RowKit
set_option maxRecDepth 100000

def tgN : List Nd := [⟨1, 1, 0, 0, 0, 0⟩, ⟨3, 1, 0, 0, 0, 0⟩, ⟨4, 1, 1, 0, 0, 0⟩]
theorem tg_check : checkE tgN [(1, 0)] [(1, 2)] [1] [] = 0 := by decide
theorem tg_states : sel (isK tgN 3) tgN.length = [1] := by decide

set_option maxRecDepth 100000 in
set_option maxHeartbeats 1000000 in
theorem toggle_any (w : World) :
    Calls Tryz.prog 25 #[] w fun e w' => ∃ B0 B1 B2 B3, e = .returned (Mv.val ⟨some ⟨B0, 0, none⟩, 3, some ⟨B1, 0, none⟩, 1, 1, some ⟨B2, 0, none⟩, 1, 1, some ⟨B3, 0, none⟩, 1, 1, none, 0, 0⟩ 3) ∧
      NodesAt w' (some ⟨B0, 0, none⟩) tgN ∧ PairsAt w' (some ⟨B1, 0, none⟩) [(1, 0)] ∧ PairsAt w' (some ⟨B2, 0, none⟩) [(1, 2)] ∧ IntsAt w' (some ⟨B3, 0, none⟩) [1] ∧ Below w.heap.size w w' := by
  go_enter Tryz.func25, Tryz.ntmps25
  go_wp2
  refine bodyPost_ret (v := .agg #[.slice (some ⟨w.heap.size + 1, 0, none⟩) 3 3, .slice (some ⟨w.heap.size + 1 + 1, 0, none⟩) 1 1, .slice (some ⟨w.heap.size + 1 + 1 + 1, 0, none⟩) 1 1, .slice (some ⟨w.heap.size + 1 + 1 + 1 + 1, 0, none⟩) 1 1, .slice none 0 0]) (by simp [results, Tryz.results25, go_sem]) rfl ⟨w.heap.size + 1, w.heap.size + 1 + 1, w.heap.size + 1 + 1 + 1, w.heap.size + 1 + 1 + 1 + 1, rfl, ?_, ?_, ?_, ?_, ?_⟩
  · intro _
    refine ⟨w.heap.size + 1, 0, rfl, fun i hi => ?_⟩
    match i, hi with
    | 0, _ => simp [go_sem, tgN]
    | 1, _ => simp [go_sem, tgN]
    | 2, _ => simp [go_sem, tgN]
  · intro _
    refine ⟨w.heap.size + 1 + 1, 0, rfl, fun i hi => ?_⟩
    match i, hi with
    | 0, _ => simp [go_sem]
  · intro _
    refine ⟨w.heap.size + 1 + 1 + 1, 0, rfl, fun i hi => ?_⟩
    match i, hi with
    | 0, _ => simp [go_sem]
  · intro _
    refine ⟨w.heap.size + 1 + 1 + 1 + 1, 0, rfl, fun i hi => ?_⟩
    match i, hi with
    | 0, _ => simp [go_sem]
  · exact bal (bal (bal (bal (bal (Below.refl _ _) _) _) _) _) _

end Go.Proofs.YtabnimgpednhjaaGreatDoor.Ev

namespace Go.Proofs.YtabnimgpednhjaaGreatDoor
open Go.RowKit Go.Deep
set_option maxRecDepth 100000

def tgL0 : List UInt8 := [48, 32, 99, 111, 110, 115, 116, 32, 49, 32, 48, 10]
def tgL1 : List UInt8 := [49, 32, 115, 116, 97, 116, 101, 32, 49, 10]
def tgL2 : List UInt8 := [50, 32, 110, 111, 116, 32, 49, 32, 49, 10]
def tgL3 : List UInt8 := [105, 110, 105, 116, 32, 49, 32, 48, 10]
def tgL4 : List UInt8 := [110, 101, 120, 116, 32, 49, 32, 50, 10]
def tgL5 : List UInt8 := [98, 97, 100, 32, 49, 10]
def tgT : List UInt8 := tgL0 ++ tgL1 ++ tgL2 ++ tgL3 ++ tgL4 ++ tgL5
theorem tg_text : modelT Ev.tgN [(1, 0)] [(1, 2)] [1] [] = tgT := by kernel_rfl
theorem step_some {m m' : Md} {a r : List UInt8} {k : Nat} (he : endsOf ⟨(a ++ r).toArray⟩ = true) (hl : m.line (wordsOf (lineOf ⟨(a ++ r).toArray⟩)) = some m') (hr : restOf ⟨(a ++ r).toArray⟩ = ⟨r.toArray⟩) (h0 : (a ++ r).length ≠ 0) : readM m ⟨(a ++ r).toArray⟩ k = readM m' ⟨r.toArray⟩ (k + 1) := by
  rw [readM_some (by simpa [ByteArray.size] using h0) he hl, hr]
def tgM : Md := ⟨Ev.tgN, [(1, 0)], [(1, 2)], [1], [], 3⟩
theorem tg_read : readM Md0 ⟨tgT.toArray⟩ 1 = .ok tgM := by
  rw [show tgT = tgL0 ++ (tgL1 ++ (tgL2 ++ (tgL3 ++ (tgL4 ++ (tgL5 ++ []))))) by kernel_rfl]
  rw [step_some (m' := ⟨[⟨1, 1, 0, 0, 0, 0⟩], [], [], [], [], 0⟩) (by kernel_rfl) (by kernel_rfl) (by kernel_rfl) (by decide)]
  rw [step_some (m' := ⟨[⟨1, 1, 0, 0, 0, 0⟩, ⟨3, 1, 0, 0, 0, 0⟩], [], [], [], [], 0⟩) (by kernel_rfl) (by kernel_rfl) (by kernel_rfl) (by decide)]
  rw [step_some (m' := ⟨Ev.tgN, [], [], [], [], 0⟩) (by kernel_rfl) (by kernel_rfl) (by kernel_rfl) (by decide)]
  rw [step_some (m' := ⟨Ev.tgN, [(1, 0)], [], [], [], 1⟩) (by kernel_rfl) (by kernel_rfl) (by kernel_rfl) (by decide)]
  rw [step_some (m' := ⟨Ev.tgN, [(1, 0)], [(1, 2)], [], [], 2⟩) (by kernel_rfl) (by kernel_rfl) (by kernel_rfl) (by decide)]
  rw [step_some (m' := tgM) (by kernel_rfl) (by kernel_rfl) (by kernel_rfl) (by decide)]
  exact readM_nil rfl
theorem tg_parse : parseR ⟨tgT.toArray⟩ = (tgM, 0, 0) := by
  unfold parseR
  rw [if_neg (by decide), tg_read]
  exact if_pos Ev.tg_check
end Go.Proofs.YtabnimgpednhjaaGreatDoor

namespace Go.Proofs.YtabnimgpednhjaaGreatDoor
open Go.RowKit Go.Deep
set_option maxRecDepth 100000

theorem tg_ok : ∀ x ∈ Ev.tgN, (toD x).ok := by
  intro x hx
  simp only [Ev.tgN, List.mem_cons, List.not_mem_nil, or_false] at hx
  rcases hx with rfl | rfl | rfl <;> (intro i; unfold Nd6.at' toD; simp only; split <;> decide)
theorem IsModel.later {w w' : World} {v : Value} {m : Md} (h : IsModel w v m) (hb : Below w.heap.size w w') : IsModel w' v m := by
  obtain ⟨a0, a1, a2, a3, a4, c0, c1, c2, c3, c4, hv, h0, h1, h2, h3, h4⟩ := h
  exact ⟨a0, a1, a2, a3, a4, c0, c1, c2, c3, c4, hv, h0.later hb, h1.later hb, h2.later hb, h3.later hb, h4.later hb⟩
theorem tgP (B0 B1 B2 B3 : Nat) (w : World) (h0 : Ev.NodesAt w (some ⟨B0, 0, none⟩) Ev.tgN) (h1 : Ev.PairsAt w (some ⟨B1, 0, none⟩) [(1, 0)]) (h2 : Ev.PairsAt w (some ⟨B2, 0, none⟩) [(1, 2)]) (h3 : Ev.IntsAt w (some ⟨B3, 0, none⟩) [1]) (hKW : KW w) (hSW : SW w) (ht : Pow w) :
    Calls Tryz.prog 5 #[Ev.Mv.val ⟨some ⟨B0, 0, none⟩, 3, some ⟨B1, 0, none⟩, 1, 1, some ⟨B2, 0, none⟩, 1, 1, some ⟨B3, 0, none⟩, 1, 1, none, 0, 0⟩ 3] w fun e w' => e = .returned (.tuple #[.string ⟨tgT.toArray⟩, .int .i64 0]) ∧ Below w.heap.size w w' := by
  refine (print_any (some ⟨B0, 0, none⟩) (some ⟨B1, 0, none⟩) (some ⟨B2, 0, none⟩) (some ⟨B3, 0, none⟩) none 3 1 1 1 0 Ev.tgN [(1, 0)] [(1, 2)] [1] [] (by decide) (by decide) (by decide) (by decide) (by decide) (fun _ => tg_ok) (fun _ => by decide) (fun _ => by decide) w h0 h1 h2 h3 (fun h => absurd h (by decide)) hKW hSW ht).mono ?_
  rintro e w' ⟨t, rfl, ht1, -, hb⟩
  rw [Ev.tg_check, ht1 Ev.tg_check, tg_text]
  exact ⟨rfl, hb⟩
theorem tgS (v : Value) (B0 B1 B2 B3 : Nat) (w : World) (hv : IsModel w v tgM) (h0 : Ev.NodesAt w (some ⟨B0, 0, none⟩) Ev.tgN) (h1 : Ev.PairsAt w (some ⟨B1, 0, none⟩) [(1, 0)]) (h2 : Ev.PairsAt w (some ⟨B2, 0, none⟩) [(1, 2)]) (h3 : Ev.IntsAt w (some ⟨B3, 0, none⟩) [1]) :
    Calls Tryz.prog 11 #[v, Ev.Mv.val ⟨some ⟨B0, 0, none⟩, 3, some ⟨B1, 0, none⟩, 1, 1, some ⟨B2, 0, none⟩, 1, 1, some ⟨B3, 0, none⟩, 1, 1, none, 0, 0⟩ 3] w fun e w' => e = .returned (.bool true) ∧ Below w.heap.size w w' := by
  obtain ⟨a0, a1, a2, a3, a4, c0, c1, c2, c3, c4, rfl, g0, g1, g2, g3, g4⟩ := hv
  exact Ev.sameModel_eq a0 a1 a2 a3 a4 _ _ _ _ _ c0 c1 c2 c3 c4 3 1 1 1 0 Ev.tgN [(1, 0)] [(1, 2)] [1] [] (by decide) (by decide) (by decide) (by decide) (by decide) w g0 g1 g2 g3 g4 h0 h1 h2 h3 (fun h => absurd h (by decide))

theorem tg_lit : (ByteArray.mk tgT.toArray) = ⟨#[48, 32, 99, 111, 110, 115, 116, 32, 49, 32, 48, 10, 49, 32, 115, 116, 97, 116, 101, 32, 49, 10, 50, 32, 110, 111, 116, 32, 49, 32, 49, 10, 105, 110, 105, 116, 32, 49, 32, 48, 10, 110, 101, 120, 116, 32, 49, 32, 50, 10, 98, 97, 100, 32, 49, 10]⟩ := by kernel_rfl

set_option maxHeartbeats 4000000 in
theorem textBegun_any (mx : Int) (w : World) (hm : w.cell? ⟨2, 0, none⟩ = some (.int .i64 mx)) (hSW : SW w) (hKW : KW w) (ht : Pow w) :
    Calls Tryz.prog 8 #[] w fun e w' => e = .returned (.bool true) ∧ Below w.heap.size w w' := by
  have HM := hide hm
  have HSW := hide hSW
  have HKW := hide hKW
  have HT := hide ht
  clear hm hSW hKW ht
  go_enter Tryz.func8, Tryz.ntmps8
  go_wp2_with fail
  refine (Ev.toggle_any _).mono ?_
  rintro e w1 ⟨B0, B1, B2, B3, rfl, h0, h1, h2, h3, hb1⟩
  have HP := hide (tgP B0 B1 B2 B3 w1 h0 h1 h2 h3 (HKW.out.later hb1) (HSW.out.later hb1) (tab_later HT.out hb1))
  have HB1 := hide hb1
  clear h0 h1 h2 h3 hb1
  go_wp2_with fail
  refine HP.out.mono ?_
  rintro e w2 ⟨rfl, hb2⟩
  have HB2 := hide (belowAl HB1.out hb2)
  clear HP HB1 hb2
  have HR := hide (parse_any ⟨tgT.toArray⟩ (by decide) mx w2 (cell_later HB2.out HM.out) (HSW.out.later HB2.out) (HKW.out.later HB2.out))
  unfold ParseOut at HR
  rw [tg_parse] at HR
  have hsz : (ByteArray.mk tgT.toArray).toList = tgT := by rw [ByteArray.toList_eq]
  go_wp2_with fail
  refine HR.out.mono ?_
  rintro e w3 ⟨v, rfl, hv, hb3⟩
  have HB3 := hide (belowAl HB2.out hb3)
  have HV := hide hv
  obtain ⟨a0, a1, a2, a3, a4, c0, c1, c2, c3, c4, hvv, -⟩ := hv
  have hvv2 : v = .agg #[.slice a0 3 c0, .slice a1 1 c1, .slice a2 1 c2, .slice a3 1 c3, .slice a4 0 c4] := hvv
  rw [hvv2]
  rw [hvv2] at HV
  clear HR hb3 HB2 hvv hvv2 hsz
  rw [tg_lit]
  go_wp2
  have hb6 : Below w3.heap.size w3 (w3.alloc (.cells #[.slice a0 3 c0, .slice a1 1 c1, .slice a2 1 c2, .slice a3 1 c3, .slice a4 0 c4] 26)) := bal (Below.refl _ _) _
  have y0 : (w3.alloc (.cells #[.slice a0 3 c0, .slice a1 1 c1, .slice a2 1 c2, .slice a3 1 c3, .slice a4 0 c4] 26)).cell? ⟨w3.heap.size, 0, none⟩ = some (.slice a0 3 c0) := by simp [go_sem]
  have y1 : (w3.alloc (.cells #[.slice a0 3 c0, .slice a1 1 c1, .slice a2 1 c2, .slice a3 1 c3, .slice a4 0 c4] 26)).cell? ⟨w3.heap.size, 1, none⟩ = some (.slice a1 1 c1) := by simp [go_sem]
  have y2 : (w3.alloc (.cells #[.slice a0 3 c0, .slice a1 1 c1, .slice a2 1 c2, .slice a3 1 c3, .slice a4 0 c4] 26)).cell? ⟨w3.heap.size, 2, none⟩ = some (.slice a2 1 c2) := by simp [go_sem]
  have y3 : (w3.alloc (.cells #[.slice a0 3 c0, .slice a1 1 c1, .slice a2 1 c2, .slice a3 1 c3, .slice a4 0 c4] 26)).cell? ⟨w3.heap.size, 3, none⟩ = some (.slice a3 1 c3) := by simp [go_sem]
  have y4 : (w3.alloc (.cells #[.slice a0 3 c0, .slice a1 1 c1, .slice a2 1 c2, .slice a3 1 c3, .slice a4 0 c4] 26)).cell? ⟨w3.heap.size, 4, none⟩ = some (.slice a4 0 c4) := by simp [go_sem]
  have HV6 := hide (HV.out.later hb6)
  have HB6 := hide (belowAl HB3.out hb6)
  generalize w3.alloc (.cells #[.slice a0 3 c0, .slice a1 1 c1, .slice a2 1 c2, .slice a3 1 c3, .slice a4 0 c4] 26) = w6 at *
  clear hb6 HB3 HV
  generalize w3.heap.size = G at *
  have hbd : Below w6.heap.size w6 w6.drew := (Below.refl _ w6).drew
  go_region_held3 (fun w' => w'.cell? ⟨G, 0, none⟩ = some (.slice a0 3 c0) ∧ w'.cell? ⟨G, 1, none⟩ = some (.slice a1 1 c1) ∧ w'.cell? ⟨G, 2, none⟩ = some (.slice a2 1 c2) ∧ w'.cell? ⟨G, 3, none⟩ = some (.slice a3 1 c3) ∧ w'.cell? ⟨G, 4, none⟩ = some (.slice a4 0 c4))
    (first | exact ⟨y0, y1, y2, y3, y4⟩ | exact ⟨cell_later hb7 y0, cell_later hb7 y1, cell_later hb7 y2, cell_later hb7 y3, cell_later hb7 y4⟩ | exact ⟨cell_later hb8 (cell_later hb7 y0), cell_later hb8 (cell_later hb7 y1), cell_later hb8 (cell_later hb7 y2), cell_later hb8 (cell_later hb7 y3), cell_later hb8 (cell_later hb7 y4)⟩ | go_keep)
    (first
      | (go_at_call 25; refine (Ev.toggle_any _).mono ?_; rintro e w7 ⟨D0, D1, D2, D3, rfl, t0, t1, t2, t3, hb7⟩)
      | (go_at_call 11; refine (tgS _ D0 D1 D2 D3 _ (HV6.out.later (belowAl hbd hb7)) t0 t1 t2 t3).mono ?_; rintro e w8 ⟨rfl, hb8⟩))
  rename_i hHeld
  clear hHeld
  have HB8 := hide (belowAl HB6.out (belowAl (belowAl hbd hb7) hb8))
  clear hb7 hb8 hbd t0 t1 t2 t3
  go_wp2
  go_ret
  exact ⟨rfl, HB8.out⟩
end Go.Proofs.YtabnimgpednhjaaGreatDoor

namespace Go.Proofs.YtabnimgpednhjaaGreatDoor
open Go.RowKit
set_option maxRecDepth 100000

structure NdOk (i : Nat) (x : Ev.Nd) : Prop where
  kind : 1 ≤ x.kind ∧ x.kind ≤ 23
  width : 1 ≤ x.width ∧ x.width ≤ 8
  a : if 0 < Ev.takes x.kind then 0 ≤ x.a ∧ x.a < i else x.a = 0
  b : if 1 < Ev.takes x.kind then 0 ≤ x.b ∧ x.b < i else x.b = 0
  c : if 2 < Ev.takes x.kind then 0 ≤ x.c ∧ x.c < i else x.c = 0
  n : if hasN x.kind = true then 0 ≤ x.n ∧ x.n < 256 else x.n = 0
theorem badOn_no {t i num x : Int} (h : Ev.badOn t i num x = false) : if i < t then 0 ≤ x ∧ x < num else x = 0 := by
  unfold Ev.badOn at h
  split at h
  · rename_i h1
    rw [if_pos h1]
    simp at h
    omega
  · rename_i h1
    rw [if_neg h1]
    simpa using h
theorem two_le {v : Int} (h : 1 ≤ v ∧ v ≤ 8) : Ev.two v ≤ 256 := by
  rcases Ev.nine (w := v) (by omega) with rfl | rfl | rfl | rfl | rfl | rfl | rfl | rfl | rfl <;> decide
theorem fit_n {k own n a b c : Int} (h : Ev.fitE k own n a b c = 0) (h4 : 4 ≤ k) : if hasN k = true then 0 ≤ n ∧ n < 256 else n = 0 := by
  unfold Ev.fitE at h
  split at h
  · omega
  split at h
  · omega
  rename_i ho
  simp only [Bool.not_eq_false, Ev.btw_true] at ho
  split at h
  · omega
  rename_i hr
  split at h
  · omega
  rename_i hn
  split at h
  · rename_i hm
    by_cases hk : k = 21
    · subst hk
      rw [if_pos (by decide)]
      have hs : Ev.shape 21 = 6 := by decide
      rw [hs] at hm
      simp [Ev.metS, Ev.metOk, Ev.askOk] at hm
      simp [Ev.rngOk, Ev.takes, Ev.btw] at hr
      omega
    · rw [if_neg (by unfold hasN; simp; omega)]
      omega
  · omega
theorem node_facts {ns : List Ev.Nd} {i : Nat} {x : Ev.Nd} (h : Ev.nodeE ns i x = 0) : NdOk i x := by
  unfold Ev.nodeE at h
  split at h
  · omega
  rename_i h1
  split at h
  · omega
  rename_i h2
  simp only [Bool.not_eq_false, Ev.btw_true] at h1 h2
  split at h
  · rename_i h4
    unfold Ev.opE at h
    split at h
    · omega
    rename_i hb
    simp only [Bool.or_eq_true, not_or, Bool.not_eq_true] at hb
    exact ⟨h1, h2, badOn_no hb.1.1, badOn_no hb.1.2, badOn_no hb.2, fit_n h h4⟩
  · rename_i h4
    have ht : Ev.takes x.kind = 0 := by unfold Ev.takes; (repeat' split) <;> omega
    unfold Ev.leafE at h
    split at h
    · omega
    rename_i hc
    split at h
    · omega
    rename_i hn
    split at h
    · omega
    rename_i ha
    have hw := two_le h2
    refine ⟨h1, h2, by rw [ht]; simp; omega, by rw [ht]; simp; omega, by rw [ht]; simp; omega, ?_⟩
    by_cases h1k : x.kind = 1
    · rw [if_pos (by rw [h1k]; decide)]
      have : Ev.isW x.n x.width = true := by
        cases e : Ev.isW x.n x.width
        · exact absurd ⟨h1k, e⟩ hc
        · rfl
      rw [Ev.isW_iff] at this
      omega
    · rw [if_neg (by unfold hasN; simp; omega)]
      omega
theorem NdOk.ok {i : Nat} {x : Ev.Nd} (h : NdOk i x) (hi : i ≤ 80) : (toD x).ok := by
  obtain ⟨h1, h2, h3, h4, h5, h6⟩ := h
  intro j
  unfold Nd6.at' toD
  split
  · show _ ≤ ((x.kind.toNat : Nat) : Int) ∧ ((x.kind.toNat : Nat) : Int) ≤ _; omega
  · show _ ≤ x.width ∧ x.width ≤ _; omega
  · show _ ≤ x.a ∧ x.a ≤ _; split at h3 <;> omega
  · show _ ≤ x.b ∧ x.b ≤ _; split at h4 <;> omega
  · show _ ≤ x.c ∧ x.c ≤ _; split at h5 <;> omega
  · show _ ≤ x.n ∧ x.n ≤ _; split at h6 <;> omega
structure MdOk (ns : List Ev.Nd) (is xs : List (Int × Int)) (bs hs : List Int) : Prop where
  len : ns.length ≤ 80 ∧ is.length ≤ 80 ∧ xs.length ≤ 80 ∧ bs.length ≤ 8 ∧ hs.length ≤ 8
  ns : ∀ (i : Nat) (h : i < ns.length), NdOk i ns[i]
  is : ∀ p ∈ is, (0 ≤ p.1 ∧ p.1 < 80) ∧ 0 ≤ p.2 ∧ p.2 < 80
  xs : ∀ p ∈ xs, (0 ≤ p.1 ∧ p.1 < 80) ∧ 0 ≤ p.2 ∧ p.2 < 80
  bs : ∀ n ∈ bs, 0 ≤ n ∧ n < 80
  hs : ∀ n ∈ hs, 0 ≤ n ∧ n < 80
theorem model_facts {ns : List Ev.Nd} {is xs : List (Int × Int)} {bs hs : List Int} (h : Ev.checkE ns is xs bs hs = 0) : MdOk ns is xs bs hs := by
  obtain ⟨m1, m2, m3, m4, m5, m6, m7, m8⟩ := model_ok h
  obtain ⟨_, h4, h5, h6⟩ := Ev.check_zero h
  have hmk : (∀ n ∈ bs, 0 ≤ n ∧ n < 80) ∧ ∀ n ∈ hs, 0 ≤ n ∧ n < 80 := by
    unfold Ev.marksE at h6
    split at h6
    · omega
    split at h6
    · omega
    rename_i hb
    simp only [Bool.or_eq_true, not_or, List.any_eq_true, not_exists, not_and, Bool.not_eq_true, Bool.not_eq_false'] at hb
    refine ⟨fun n hn => ?_, fun n hn => ?_⟩
    · have := Ev.isN_true.1 (by simpa using hb.1 n hn); omega
    · have := Ev.isN_true.1 (by simpa using hb.2 n hn); omega
  refine ⟨⟨m1, m2, m3, m4, m5⟩, fun i hi => ?_, m7, m8, hmk.1, hmk.2⟩
  have hz := Ev.firstN_zero.1 h4 i hi
  rw [Ev.nodeAtE_at hi] at hz
  exact node_facts hz
theorem MdOk.ok {ns : List Ev.Nd} {is xs : List (Int × Int)} {bs hs : List Int} (h : MdOk ns is xs bs hs) : ∀ x ∈ ns, (toD x).ok := fun x hx => by
  obtain ⟨i, hi, rfl⟩ := List.getElem_of_mem hx
  exact (h.ns i hi).ok (by have := h.len.1; omega)
end Go.Proofs.YtabnimgpednhjaaGreatDoor
