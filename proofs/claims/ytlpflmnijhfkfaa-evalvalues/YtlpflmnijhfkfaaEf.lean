/- What comes of a model: Values, and what is told ahead of it. -/
import Derived.Test.YtlpflmnijhfkfaaEd
namespace Go.Proofs.Ytlpflmnijhfkfaa
open Go.RowKit

/-- What is wrong with a model, its states and its inputs. -/
def readyE (ns : List Nd) (is xs : List (Int × Int)) (bs hs sts ins : List Int) : Int :=
  if checkE ns is xs bs hs ≠ 0 then checkE ns is xs bs hs else if wordsE ns 3 sts ≠ 0 then wordsE ns 3 sts else wordsE ns 2 ins
/-- The words that are told beside it. -/
def valsI (ns : List Nd) (e : Int) (sts ins : List Int) : List Int := if e = 0 then vals ns sts ins ns.length else []

theorem irow_ints {w : World} {g : Nat} {l : List Int} (h : IRow w g l) : IntsAt w (some ⟨g, 0, none⟩) l := fun _ => ⟨g, 0, rfl, fun i hi => by rw [Nat.zero_add]; exact (h i hi).1⟩

theorem SL.later {w w1 : World} {v : Value} {l : List Int} (h : SL w v l) (hb : Below w.heap.size w w1) : SL w1 v l := by
  obtain ⟨p, cap, hv, hI, h1, h2⟩ := h
  exact ⟨p, cap, hv, hI.later hb, h1, h2⟩

set_option maxRecDepth 100000 in
set_option maxHeartbeats 4000000 in
theorem values_any (a0 a1 a2 a3 a4 : Option Addr) (c0 c1 c2 c3 c4 : Nat) (ns : List Nd) (is xs : List (Int × Int)) (bs hs : List Int) (hln : ns.length ≤ maxLen) (hli : is.length ≤ 8796093022208) (hlx : xs.length ≤ 8796093022208) (hlb : bs.length ≤ maxLen) (hlh : hs.length ≤ maxLen)
    (sts ins : List Int) (hls : sts.length ≤ maxLen) (hlq : ins.length ≤ maxLen) (v4 v5 : Value) (w : World)
    (hN : NodesAt w a0 ns) (hI : PairsAt w a1 is) (hX : PairsAt w a2 xs) (hBs : IntsAt w a3 bs) (hHs : IntsAt w a4 hs) (hS : SL w v4 sts) (hT : SL w v5 ins) :
    Calls Try.prog 30 #[Mv.val ⟨a0, c0, a1, is.length, c1, a2, xs.length, c2, a3, bs.length, c3, a4, hs.length, c4⟩ ns.length, v4, v5] w fun e w' =>
      ∃ p cap l, e = .returned (.tuple #[.slice p l.length cap, .int .i64 (readyE ns is xs bs hs sts ins)]) ∧ l = valsI ns (readyE ns is xs bs hs sts ins) sts ins ∧ IntsAt w' p l ∧ Below w.heap.size w w' := by
  obtain ⟨p4, k4, rfl, hI4, h41, h42⟩ := hS
  obtain ⟨p5, k5, rfl, hI5, h51, h52⟩ := hT
  have HB0 : Hid (Below w.heap.size w (w.alloc (.cells (Mv.cells ⟨a0, c0, a1, is.length, c1, a2, xs.length, c2, a3, bs.length, c3, a4, hs.length, c4⟩ ns.length) 40))) := bal (Below.refl _ _) _
  have HBx := hide (Box.new w ⟨a0, c0, a1, is.length, c1, a2, xs.length, c2, a3, bs.length, c3, a4, hs.length, c4⟩ ns.length)
  have HK := hide (fun _ : Unit => check_any a0 a1 a2 a3 a4 c0 c1 c2 c3 c4 ns is xs bs hs hln hli hlx hlb hlh _ (hN.later HB0.out) (hI.later HB0.out) (hX.later HB0.out) (hBs.later HB0.out) (hHs.later HB0.out))
  have HCZ := hide (@check_zero ns is xs bs hs)
  have HRE : Hid (readyE ns is xs bs hs sts ins = if checkE ns is xs bs hs ≠ 0 then checkE ns is xs bs hs else if wordsE ns 3 sts ≠ 0 then wordsE ns 3 sts else wordsE ns 2 ins) := rfl
  have HFS := hide (fun (hl : ns.length ≤ 80) (hW : Wok ns) (w1 : World) (hb : Below w.heap.size w w1) => fitW_any ⟨a0, c0, a1, is.length, c1, a2, xs.length, c2, a3, bs.length, c3, a4, hs.length, c4⟩ ns hl hW 3 sts p4 k4 hls w1 (hN.later hb) (hI4.later hb))
  have HFI := hide (fun (hl : ns.length ≤ 80) (hW : Wok ns) (w1 : World) (hb : Below w.heap.size w w1) => fitW_any ⟨a0, c0, a1, is.length, c1, a2, xs.length, c2, a3, bs.length, c3, a4, hs.length, c4⟩ ns hl hW 2 ins p5 k5 hlq w1 (hN.later hb) (hI5.later hb))
  have HWD := hide (fun (hl : ns.length ≤ 80) (hn : firstN (nodeAtE ns) ns.length = 0) (hs' : wordsE ns 3 sts = 0) (hi' : wordsE ns 2 ins = 0) (w1 : World) (hb : Below w.heap.size w w1) => words_any2 ⟨a0, c0, a1, is.length, c1, a2, xs.length, c2, a3, bs.length, c3, a4, hs.length, c4⟩ ns hl hn sts ins hs' hi' (.slice p4 sts.length k4) (.slice p5 ins.length k5) w1 (hN.later hb) ⟨p4, k4, rfl, hI4.later hb, h41, h42⟩ ⟨p5, k5, rfl, hI5.later hb, h51, h52⟩)
  have HVI : Hid (∀ e : Int, e ≠ 0 → valsI ns e sts ins = []) := fun e h => by unfold valsI; rw [if_neg h]
  have HV0 : Hid (valsI ns 0 sts ins = vals ns sts ins ns.length) := by unfold valsI; rw [if_pos rfl]; rfl
  clear hN hI hX hBs hHs hI4 hI5
  generalize checkE ns is xs bs hs = ce at *
  generalize readyE ns is xs bs hs sts ins = re at *
  generalize wordsE ns 3 sts = e3 at *
  generalize wordsE ns 2 ins = e2 at *
  go_enter Try.func30, Try.ntmps30
  go_wp2_with fail
  refine (HK.out ()).mono ?_
  rintro e w1 ⟨rfl, hb1⟩
  have HB1 := hide (bthen HB0.out hb1)
  have HX1 := hide (HBx.out.later hb1)
  have hbox := HX1.out
  simp only [Box] at hbox
  obtain ⟨q0, q1, q2, q3, q4⟩ := hbox
  clear hb1 HB0 HBx HK
  by_cases hce : ce = 0
  · subst hce
    obtain ⟨⟨hl, _, _⟩, hfn, _, _⟩ := HCZ.out rfl
    have HFN := hide hfn
    have HW := hide (nodes_ok hfn).1
    clear hfn HCZ
    go_wp2_with fail
    refine (HFS.out hl HW.out _ HB1.out).mono ?_
    rintro e w2 ⟨rfl, hb2⟩
    have HB2 := hide (bthen HB1.out hb2)
    have HX2 := hide (HX1.out.later hb2)
    clear q0 q1 q2 q3 q4
    have hbox := HX2.out
    simp only [Box] at hbox
    obtain ⟨q0, q1, q2, q3, q4⟩ := hbox
    clear hb2 HB1 HX1 HFS
    by_cases he3 : e3 = 0
    · subst he3
      go_wp2_with fail
      refine (HFI.out hl HW.out _ HB2.out).mono ?_
      rintro e w3 ⟨rfl, hb3⟩
      have HB3 := hide (bthen HB2.out hb3)
      have HX3 := hide (HX2.out.later hb3)
      clear q0 q1 q2 q3 q4
      have hbox := HX3.out
      simp only [Box] at hbox
      obtain ⟨q0, q1, q2, q3, q4⟩ := hbox
      clear hb3 HB2 HX2 HFI
      by_cases he2 : e2 = 0
      · subst he2
        have HR0 : Hid (re = 0) := by rw [HRE.out]; simp [Hid]
        clear HRE
        go_wp2_with fail
        refine (HWD.out hl HFN.out (by first | rfl | trivial) (by first | rfl | trivial) _ HB3.out).mono ?_
        rintro e w4 ⟨g, rfl, hR, hb4⟩
        go_wp2
        go_ret2
        refine ⟨some ⟨g, 0, none⟩, ns.length, vals ns sts ins ns.length, ?_, ?_, irow_ints hR, bthen HB3.out hb4⟩
        · rw [HR0.out, vals_len]; rfl
        · rw [HR0.out, HV0.out]
      · have hne : (e2 != 0) = true := by simp [he2]
        have HR0 : Hid (re = e2) := by rw [HRE.out]; simp [Hid]
        have HE := hide he2
        clear HRE he2
        go_wp2
        go_ret2
        exact ⟨none, 0, [], by rw [HR0.out]; rfl, by rw [HVI.out _ (by rw [HR0.out]; exact HE.out)], fun h => by simp at h, HB3.out⟩
    · have hne : (e3 != 0) = true := by simp [he3]
      have HR0 : Hid (re = e3) := by rw [HRE.out, if_neg (by simp), if_pos he3]; rfl
      have HE := hide he3
      clear HRE he3
      go_wp2
      go_ret2
      exact ⟨none, 0, [], by rw [HR0.out]; rfl, by rw [HVI.out _ (by rw [HR0.out]; exact HE.out)], fun h => by simp at h, HB2.out⟩
  · have hne : (ce != 0) = true := by simp [hce]
    have HR0 : Hid (re = ce) := by rw [HRE.out, if_pos hce]; rfl
    have HE := hide hce
    clear HRE hce HCZ
    go_wp2
    go_ret2
    exact ⟨none, 0, [], by rw [HR0.out]; rfl, by rw [HVI.out _ (by rw [HR0.out]; exact HE.out)], fun h => by simp at h, HB1.out⟩

end Go.Proofs.Ytlpflmnijhfkfaa
