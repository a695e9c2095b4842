/- TextBack's walk. -/
import Derived.Test.YtabnimgpednhjaaDoorLb
namespace Go.Proofs.YtabnimgpednhjaaDoor
open Go.RowKit Go.Deep
set_option maxRecDepth 100000

set_option maxHeartbeats 8000000 in
theorem textBack_walk (a0 a1 a2 a3 a4 : Option Addr) (c0 c1 c2 c3 c4 : Nat) (ns : List Ev.Nd) (is xs : List (Int × Int)) (bs hs : List Int) (hln : ns.length ≤ maxLen) (hli : is.length ≤ 8796093022208) (hlx : xs.length ≤ 8796093022208) (hlb : bs.length ≤ maxLen) (hlh : hs.length ≤ maxLen) (s : ByteArray) (mx : Int) (w : World)
    (hN : Ev.NodesAt w a0 ns) (hI : Ev.PairsAt w a1 is) (hX : Ev.PairsAt w a2 xs) (hBs : Ev.IntsAt w a3 bs) (hHs : Ev.IntsAt w a4 hs) (hm : w.cell? ⟨2, 0, none⟩ = some (.int .i64 mx)) (hKW : KW w) (hSW : SW w) (ht : Pow w) :
    Calls Tryd.prog 3 #[Ev.Mv.val ⟨a0, c0, a1, is.length, c1, a2, xs.length, c2, a3, bs.length, c3, a4, hs.length, c4⟩ ns.length, .string s] w fun e w' => e = .returned (.bool true) ∧ Below w.heap.size w w' := by
  have hsm := fun (h : Ev.checkE ns is xs bs hs = 0) => model_facts h
  have HTB := hide (fun w' (hb : Below w.heap.size w w') => textBegun_any mx w' (cell_later hb hm) (hSW.later hb) (hKW.later hb) (tab_later ht hb))
  have HPR := hide (fun w' (hb : Below w.heap.size w w') => print_any a0 a1 a2 a3 a4 c0 c1 c2 c3 c4 ns is xs bs hs hln hli hlx hlb hlh (fun h => (hsm h).ok) (fun h n hn => by have := (hsm h).bs n hn; omega) (fun h n hn => by have := (hsm h).hs n hn; omega) w' (hN.later hb) (hI.later hb) (hX.later hb) (hBs.later hb) (hHs.later hb) (hKW.later hb) (hSW.later hb) (tab_later ht hb))
  have HPS := hide (fun w' (hb : Below w.heap.size w w') => parse_all s mx w' (cell_later hb hm) (hSW.later hb) (hKW.later hb))
  have HPA := hide (fun (q : ByteArray) w' (hb : Below w.heap.size w w') => parse_all q mx w' (cell_later hb hm) (hSW.later hb) (hKW.later hb))
  have HIM : Hid (∀ l w', Below w.heap.size w w' → IsModel w' (.agg #[.slice a0 ns.length c0, .slice a1 is.length c1, .slice a2 xs.length c2, .slice a3 bs.length c3, .slice a4 hs.length c4]) ⟨ns, is, xs, bs, hs, l⟩) := fun l w' hb => ⟨a0, a1, a2, a3, a4, c0, c1, c2, c3, c4, rfl, hN.later hb, hI.later hb, hX.later hb, hBs.later hb, hHs.later hb⟩
  have HKW := hide hKW
  have HSW := hide hSW
  have HT := hide ht
  have HFW := hide (parse_few s)
  have HOK : Hid ((parseR s).2.2 = 0 → Ev.checkE (parseR s).1.ns (parseR s).1.is (parseR s).1.xs (parseR s).1.bs (parseR s).1.hs = 0 ∧ modelT (parseR s).1.ns (parseR s).1.is (parseR s).1.xs (parseR s).1.bs (parseR s).1.hs = bl s) := fun h => parse_ok (k := (parseR s).2.1) (by rw [← h])
  have HBP : Hid (Ev.checkE ns is xs bs hs = 0 → (modelT ns is xs bs hs).length ≤ 10000 → ∃ l, parseR ⟨(modelT ns is xs bs hs).toArray⟩ = (⟨ns, is, xs, bs, hs, l⟩, 0, 0) ∧ (⟨ns, is, xs, bs, hs, l⟩ : Md).few) := fun h hz => by
    obtain ⟨l, hl⟩ := back_parse h (bl_mk _) (by rw [size_bl, bl_mk]; exact hz)
    have h5 := (hsm h).len
    exact ⟨l, hl, by show ns.length ≤ _; omega, by show is.length ≤ _; omega, by show xs.length ≤ _; omega, by show bs.length ≤ _; omega, by show hs.length ≤ _; omega⟩
  unfold ParseOut at HPS
  generalize parseR s = R at *
  obtain ⟨m2, k2, ce2⟩ := R
  simp only at HPS HFW HOK
  have hB0 : Below w.heap.size w (w.alloc (.cells (Ev.Mv.cells ⟨a0, c0, a1, is.length, c1, a2, xs.length, c2, a3, bs.length, c3, a4, hs.length, c4⟩ ns.length) 26)) := bal (Below.refl _ _) _
  have hbox := Ev.Box.new w ⟨a0, c0, a1, is.length, c1, a2, xs.length, c2, a3, bs.length, c3, a4, hs.length, c4⟩ ns.length
  simp only [Ev.Box] at hbox
  obtain ⟨q0, q1, q2, q3, q4⟩ := hbox
  unfold Ev.Mv.val at HPR
  clear hN hI hX hBs hHs hm hKW hSW ht hsm
  generalize modelT ns is xs bs hs = MT at *
  generalize Ev.checkE ns is xs bs hs = ce at *
  go_enter Tryd.func3, Tryd.ntmps3
  go_wp2_with fail
  refine (HTB.out _ hB0).mono ?_
  rintro e w1 ⟨rfl, hb1⟩
  have HB1 := hide (belowAl hB0 hb1)
  replace q0 := cell_later hb1 q0
  replace q1 := cell_later hb1 q1
  replace q2 := cell_later hb1 q2
  replace q3 := cell_later hb1 q3
  replace q4 := cell_later hb1 q4
  clear hb1 hB0 HTB
  go_wp2_with fail
  refine (HPR.out _ HB1.out).mono ?_
  rintro e w2 ⟨T, rfl, hT0, hT1, hb2⟩
  have HB2 := hide (belowAl HB1.out hb2)
  replace q0 := cell_later hb2 q0
  replace q1 := cell_later hb2 q1
  replace q2 := cell_later hb2 q2
  replace q3 := cell_later hb2 q3
  replace q4 := cell_later hb2 q4
  clear hb2 HB1 HPR
  by_cases hce : ce = 0
  · subst hce
    have hT := hT0 rfl
    subst hT
    clear hT0 hT1
    have hzz : ((⟨T.toArray⟩ : ByteArray).size : Int) = (T.length : Int) := by rw [size_bl, bl_mk]
    by_cases hlen : T.length ≤ 10000
    · obtain ⟨l, hpr, hfew⟩ := HBP.out rfl hlen
      have hle : (T.length : Int) ≤ 10000 := by omega
      have hle2 : ((⟨T.toArray⟩ : ByteArray).size : Int) ≤ 10000 := by omega
      have HP1 := hide (HPA.out ⟨T.toArray⟩ w2 HB2.out)
      unfold ParseOut at HP1
      rw [hpr] at HP1
      simp only at HP1
      have HFE := hide hfew
      clear HBP hpr hlen HPA hfew
      generalize (⟨T.toArray⟩ : ByteArray) = S1 at *
      go_wp2_with fail
      refine HP1.out.mono ?_
      rintro e w3 ⟨u, rfl, hu, hb3⟩
      obtain ⟨p0, p1, p2, p3, p4, r0, r1, r2, r3, r4, huu, -⟩ := id hu
      have huu2 : u = .agg #[.slice p0 ns.length r0, .slice p1 is.length r1, .slice p2 xs.length r2, .slice p3 bs.length r3, .slice p4 hs.length r4] := huu
      rw [huu2] at hu ⊢
      replace q0 := cell_later hb3 q0
      replace q1 := cell_later hb3 q1
      replace q2 := cell_later hb3 q2
      replace q3 := cell_later hb3 q3
      replace q4 := cell_later hb3 q4
      have HB3 := hide (belowAl HB2.out hb3)
      have hbA : Below w3.heap.size w3 (w3.alloc (.cells #[.slice p0 ns.length r0, .slice p1 is.length r1, .slice p2 xs.length r2, .slice p3 bs.length r3, .slice p4 hs.length r4] 26)) := bal (Below.refl _ _) _
      have y0 : (w3.alloc (.cells #[.slice p0 ns.length r0, .slice p1 is.length r1, .slice p2 xs.length r2, .slice p3 bs.length r3, .slice p4 hs.length r4] 26)).cell? ⟨w3.heap.size, 0, none⟩ = some (.slice p0 ns.length r0) := by simp [go_sem]
      have y1 : (w3.alloc (.cells #[.slice p0 ns.length r0, .slice p1 is.length r1, .slice p2 xs.length r2, .slice p3 bs.length r3, .slice p4 hs.length r4] 26)).cell? ⟨w3.heap.size, 1, none⟩ = some (.slice p1 is.length r1) := by simp [go_sem]
      have y2 : (w3.alloc (.cells #[.slice p0 ns.length r0, .slice p1 is.length r1, .slice p2 xs.length r2, .slice p3 bs.length r3, .slice p4 hs.length r4] 26)).cell? ⟨w3.heap.size, 2, none⟩ = some (.slice p2 xs.length r2) := by simp [go_sem]
      have y3 : (w3.alloc (.cells #[.slice p0 ns.length r0, .slice p1 is.length r1, .slice p2 xs.length r2, .slice p3 bs.length r3, .slice p4 hs.length r4] 26)).cell? ⟨w3.heap.size, 3, none⟩ = some (.slice p3 bs.length r3) := by simp [go_sem]
      have y4 : (w3.alloc (.cells #[.slice p0 ns.length r0, .slice p1 is.length r1, .slice p2 xs.length r2, .slice p3 bs.length r3, .slice p4 hs.length r4] 26)).cell? ⟨w3.heap.size, 4, none⟩ = some (.slice p4 hs.length r4) := by simp [go_sem]
      replace q0 := cell_later hbA q0
      replace q1 := cell_later hbA q1
      replace q2 := cell_later hbA q2
      replace q3 := cell_later hbA q3
      replace q4 := cell_later hbA q4
      have HU4 := hide (hu.later hbA)
      have HB4 := hide (belowAl HB3.out hbA)
      have HSM := hide (same_all HFE.out _ _ _ HU4.out (HIM.out l _ HB4.out))
      clear hu hb3 HB2 huu huu2 HP1 hbA HU4 HB3 HIM HFE
      go_wp2_with fail
      refine HSM.out.mono ?_
      rintro e w4 ⟨rfl, hb4⟩
      have HB4 := hide (belowAl HB4.out hb4)
      clear hb4 HSM q0 q1 q2 q3 q4 y0 y1 y2 y3 y4
      go_wp2_with fail
      refine (HPS.out _ HB4.out).mono ?_
      rintro e w5 ⟨u, rfl, hu, hb5⟩
      have HB5 := hide (belowAl HB4.out hb5)
      obtain ⟨b0, b1, b2, b3, b4, e0, e1, e2, e3, e4, huu, g0, g1, g2, g3, g4⟩ := hu
      have huu2 : u = .agg #[.slice b0 m2.ns.length e0, .slice b1 m2.is.length e1, .slice b2 m2.xs.length e2, .slice b3 m2.bs.length e3, .slice b4 m2.hs.length e4] := huu
      rw [huu2]
      clear huu huu2 hb5 HPS
      by_cases hz : ce2 = 0
      · subst hz
        obtain ⟨hck, hmt⟩ := HOK.out rfl
        have hbA : Below w5.heap.size w5 (w5.alloc (.cells #[.slice b0 m2.ns.length e0, .slice b1 m2.is.length e1, .slice b2 m2.xs.length e2, .slice b3 m2.bs.length e3, .slice b4 m2.hs.length e4] 26)) := bal (Below.refl _ _) _
        have HPR2 := hide (print_any b0 b1 b2 b3 b4 e0 e1 e2 e3 e4 m2.ns m2.is m2.xs m2.bs m2.hs (by have := HFW.out; unfold Md.few at this; unfold maxLen; omega) (by have := HFW.out; unfold Md.few at this; omega) (by have := HFW.out; unfold Md.few at this; omega) (by have := HFW.out; unfold Md.few at this; unfold maxLen; omega) (by have := HFW.out; unfold Md.few at this; unfold maxLen; omega) (fun h => (model_facts h).ok) (fun h n hn => by have := (model_facts h).bs n hn; omega) (fun h n hn => by have := (model_facts h).hs n hn; omega) _ (g0.later hbA) (g1.later hbA) (g2.later hbA) (g3.later hbA) (g4.later hbA) (HKW.out.later (belowAl HB5.out hbA)) (HSW.out.later (belowAl HB5.out hbA)) (tab_later HT.out (belowAl HB5.out hbA)))
        rw [hck] at HPR2
        unfold Ev.Mv.val at HPR2
        have x0 : (w5.alloc (.cells #[.slice b0 m2.ns.length e0, .slice b1 m2.is.length e1, .slice b2 m2.xs.length e2, .slice b3 m2.bs.length e3, .slice b4 m2.hs.length e4] 26)).cell? ⟨w5.heap.size, 0, none⟩ = some (.slice b0 m2.ns.length e0) := by simp [go_sem]
        have x1 : (w5.alloc (.cells #[.slice b0 m2.ns.length e0, .slice b1 m2.is.length e1, .slice b2 m2.xs.length e2, .slice b3 m2.bs.length e3, .slice b4 m2.hs.length e4] 26)).cell? ⟨w5.heap.size, 1, none⟩ = some (.slice b1 m2.is.length e1) := by simp [go_sem]
        have x2 : (w5.alloc (.cells #[.slice b0 m2.ns.length e0, .slice b1 m2.is.length e1, .slice b2 m2.xs.length e2, .slice b3 m2.bs.length e3, .slice b4 m2.hs.length e4] 26)).cell? ⟨w5.heap.size, 2, none⟩ = some (.slice b2 m2.xs.length e2) := by simp [go_sem]
        have x3 : (w5.alloc (.cells #[.slice b0 m2.ns.length e0, .slice b1 m2.is.length e1, .slice b2 m2.xs.length e2, .slice b3 m2.bs.length e3, .slice b4 m2.hs.length e4] 26)).cell? ⟨w5.heap.size, 3, none⟩ = some (.slice b3 m2.bs.length e3) := by simp [go_sem]
        have x4 : (w5.alloc (.cells #[.slice b0 m2.ns.length e0, .slice b1 m2.is.length e1, .slice b2 m2.xs.length e2, .slice b3 m2.bs.length e3, .slice b4 m2.hs.length e4] 26)).cell? ⟨w5.heap.size, 4, none⟩ = some (.slice b4 m2.hs.length e4) := by simp [go_sem]
        have HB6 := hide (belowAl HB5.out hbA)
        have HMT := hide hmt
        clear g0 g1 g2 g3 g4 hbA HOK hck hmt HB5 HKW HSW HT HFW
        go_wp2_with fail
        refine HPR2.out.mono ?_
        rintro e w6 ⟨T, rfl, hT0, -, hb6⟩
        have hT := hT0 trivial
        have hTs : (⟨T.toArray⟩ : ByteArray) = s := ba_eq (by rw [bl_mk, hT, HMT.out])
        rw [hTs]
        have HB7 := hide (belowAl HB6.out hb6)
        clear hb6 HB6 HPR2 hT0 hT hTs HMT
        go_wp2
        go_ret
        exact ⟨rfl, HB7.out⟩
      · have hne : (ce2 != 0) = true := by simpa using hz
        clear HOK hz HKW HSW HT HFW g0 g1 g2 g3 g4
        go_wp2
        go_ret
        exact ⟨rfl, belowAl HB5.out (bal (Below.refl _ _) _)⟩
    · have hle : ¬ (T.length : Int) ≤ 10000 := by omega
      have hle2 : ¬ ((⟨T.toArray⟩ : ByteArray).size : Int) ≤ 10000 := by omega
      clear HBP HPA HIM q0 q1 q2 q3 q4
      go_wp2_with fail
      refine (HPS.out _ HB2.out).mono ?_
      rintro e w5 ⟨u, rfl, hu, hb5⟩
      have HB5 := hide (belowAl HB2.out hb5)
      obtain ⟨b0, b1, b2, b3, b4, e0, e1, e2, e3, e4, huu, g0, g1, g2, g3, g4⟩ := hu
      have huu2 : u = .agg #[.slice b0 m2.ns.length e0, .slice b1 m2.is.length e1, .slice b2 m2.xs.length e2, .slice b3 m2.bs.length e3, .slice b4 m2.hs.length e4] := huu
      rw [huu2]
      clear huu huu2 hb5 HPS
      by_cases hz : ce2 = 0
      · subst hz
        obtain ⟨hck, hmt⟩ := HOK.out rfl
        have hbA : Below w5.heap.size w5 (w5.alloc (.cells #[.slice b0 m2.ns.length e0, .slice b1 m2.is.length e1, .slice b2 m2.xs.length e2, .slice b3 m2.bs.length e3, .slice b4 m2.hs.length e4] 26)) := bal (Below.refl _ _) _
        have HPR2 := hide (print_any b0 b1 b2 b3 b4 e0 e1 e2 e3 e4 m2.ns m2.is m2.xs m2.bs m2.hs (by have := HFW.out; unfold Md.few at this; unfold maxLen; omega) (by have := HFW.out; unfold Md.few at this; omega) (by have := HFW.out; unfold Md.few at this; omega) (by have := HFW.out; unfold Md.few at this; unfold maxLen; omega) (by have := HFW.out; unfold Md.few at this; unfold maxLen; omega) (fun h => (model_facts h).ok) (fun h n hn => by have := (model_facts h).bs n hn; omega) (fun h n hn => by have := (model_facts h).hs n hn; omega) _ (g0.later hbA) (g1.later hbA) (g2.later hbA) (g3.later hbA) (g4.later hbA) (HKW.out.later (belowAl HB5.out hbA)) (HSW.out.later (belowAl HB5.out hbA)) (tab_later HT.out (belowAl HB5.out hbA)))
        rw [hck] at HPR2
        unfold Ev.Mv.val at HPR2
        have x0 : (w5.alloc (.cells #[.slice b0 m2.ns.length e0, .slice b1 m2.is.length e1, .slice b2 m2.xs.length e2, .slice b3 m2.bs.length e3, .slice b4 m2.hs.length e4] 26)).cell? ⟨w5.heap.size, 0, none⟩ = some (.slice b0 m2.ns.length e0) := by simp [go_sem]
        have x1 : (w5.alloc (.cells #[.slice b0 m2.ns.length e0, .slice b1 m2.is.length e1, .slice b2 m2.xs.length e2, .slice b3 m2.bs.length e3, .slice b4 m2.hs.length e4] 26)).cell? ⟨w5.heap.size, 1, none⟩ = some (.slice b1 m2.is.length e1) := by simp [go_sem]
        have x2 : (w5.alloc (.cells #[.slice b0 m2.ns.length e0, .slice b1 m2.is.length e1, .slice b2 m2.xs.length e2, .slice b3 m2.bs.length e3, .slice b4 m2.hs.length e4] 26)).cell? ⟨w5.heap.size, 2, none⟩ = some (.slice b2 m2.xs.length e2) := by simp [go_sem]
        have x3 : (w5.alloc (.cells #[.slice b0 m2.ns.length e0, .slice b1 m2.is.length e1, .slice b2 m2.xs.length e2, .slice b3 m2.bs.length e3, .slice b4 m2.hs.length e4] 26)).cell? ⟨w5.heap.size, 3, none⟩ = some (.slice b3 m2.bs.length e3) := by simp [go_sem]
        have x4 : (w5.alloc (.cells #[.slice b0 m2.ns.length e0, .slice b1 m2.is.length e1, .slice b2 m2.xs.length e2, .slice b3 m2.bs.length e3, .slice b4 m2.hs.length e4] 26)).cell? ⟨w5.heap.size, 4, none⟩ = some (.slice b4 m2.hs.length e4) := by simp [go_sem]
        have HB6 := hide (belowAl HB5.out hbA)
        have HMT := hide hmt
        clear g0 g1 g2 g3 g4 hbA HOK hck hmt HB5 HKW HSW HT HFW
        go_wp2_with fail
        refine HPR2.out.mono ?_
        rintro e w6 ⟨T, rfl, hT0, -, hb6⟩
        have hT := hT0 trivial
        have hTs : (⟨T.toArray⟩ : ByteArray) = s := ba_eq (by rw [bl_mk, hT, HMT.out])
        rw [hTs]
        have HB7 := hide (belowAl HB6.out hb6)
        clear hb6 HB6 HPR2 hT0 hT hTs HMT
        go_wp2
        go_ret
        exact ⟨rfl, HB7.out⟩
      · have hne : (ce2 != 0) = true := by simpa using hz
        clear HOK hz HKW HSW HT HFW g0 g1 g2 g3 g4
        go_wp2
        go_ret
        exact ⟨rfl, belowAl HB5.out (bal (Below.refl _ _) _)⟩
  · have hT := hT1 hce
    subst hT
    have hne : (ce == 0) = false := by simpa using hce
    clear hT0 hT1 HBP HPA HIM q0 q1 q2 q3 q4 hce
    go_wp2_with fail
    refine (HPS.out _ HB2.out).mono ?_
    rintro e w5 ⟨u, rfl, hu, hb5⟩
    have HB5 := hide (belowAl HB2.out hb5)
    obtain ⟨b0, b1, b2, b3, b4, e0, e1, e2, e3, e4, huu, g0, g1, g2, g3, g4⟩ := hu
    have huu2 : u = .agg #[.slice b0 m2.ns.length e0, .slice b1 m2.is.length e1, .slice b2 m2.xs.length e2, .slice b3 m2.bs.length e3, .slice b4 m2.hs.length e4] := huu
    rw [huu2]
    clear huu huu2 hb5 HPS
    by_cases hz : ce2 = 0
    · subst hz
      obtain ⟨hck, hmt⟩ := HOK.out rfl
      have hbA : Below w5.heap.size w5 (w5.alloc (.cells #[.slice b0 m2.ns.length e0, .slice b1 m2.is.length e1, .slice b2 m2.xs.length e2, .slice b3 m2.bs.length e3, .slice b4 m2.hs.length e4] 26)) := bal (Below.refl _ _) _
      have HPR2 := hide (print_any b0 b1 b2 b3 b4 e0 e1 e2 e3 e4 m2.ns m2.is m2.xs m2.bs m2.hs (by have := HFW.out; unfold Md.few at this; unfold maxLen; omega) (by have := HFW.out; unfold Md.few at this; omega) (by have := HFW.out; unfold Md.few at this; omega) (by have := HFW.out; unfold Md.few at this; unfold maxLen; omega) (by have := HFW.out; unfold Md.few at this; unfold maxLen; omega) (fun h => (model_facts h).ok) (fun h n hn => by have := (model_facts h).bs n hn; omega) (fun h n hn => by have := (model_facts h).hs n hn; omega) _ (g0.later hbA) (g1.later hbA) (g2.later hbA) (g3.later hbA) (g4.later hbA) (HKW.out.later (belowAl HB5.out hbA)) (HSW.out.later (belowAl HB5.out hbA)) (tab_later HT.out (belowAl HB5.out hbA)))
      rw [hck] at HPR2
      unfold Ev.Mv.val at HPR2
      have x0 : (w5.alloc (.cells #[.slice b0 m2.ns.length e0, .slice b1 m2.is.length e1, .slice b2 m2.xs.length e2, .slice b3 m2.bs.length e3, .slice b4 m2.hs.length e4] 26)).cell? ⟨w5.heap.size, 0, none⟩ = some (.slice b0 m2.ns.length e0) := by simp [go_sem]
      have x1 : (w5.alloc (.cells #[.slice b0 m2.ns.length e0, .slice b1 m2.is.length e1, .slice b2 m2.xs.length e2, .slice b3 m2.bs.length e3, .slice b4 m2.hs.length e4] 26)).cell? ⟨w5.heap.size, 1, none⟩ = some (.slice b1 m2.is.length e1) := by simp [go_sem]
      have x2 : (w5.alloc (.cells #[.slice b0 m2.ns.length e0, .slice b1 m2.is.length e1, .slice b2 m2.xs.length e2, .slice b3 m2.bs.length e3, .slice b4 m2.hs.length e4] 26)).cell? ⟨w5.heap.size, 2, none⟩ = some (.slice b2 m2.xs.length e2) := by simp [go_sem]
      have x3 : (w5.alloc (.cells #[.slice b0 m2.ns.length e0, .slice b1 m2.is.length e1, .slice b2 m2.xs.length e2, .slice b3 m2.bs.length e3, .slice b4 m2.hs.length e4] 26)).cell? ⟨w5.heap.size, 3, none⟩ = some (.slice b3 m2.bs.length e3) := by simp [go_sem]
      have x4 : (w5.alloc (.cells #[.slice b0 m2.ns.length e0, .slice b1 m2.is.length e1, .slice b2 m2.xs.length e2, .slice b3 m2.bs.length e3, .slice b4 m2.hs.length e4] 26)).cell? ⟨w5.heap.size, 4, none⟩ = some (.slice b4 m2.hs.length e4) := by simp [go_sem]
      have HB6 := hide (belowAl HB5.out hbA)
      have HMT := hide hmt
      clear g0 g1 g2 g3 g4 hbA HOK hck hmt HB5 HKW HSW HT HFW
      go_wp2_with fail
      refine HPR2.out.mono ?_
      rintro e w6 ⟨T, rfl, hT0, -, hb6⟩
      have hT := hT0 trivial
      have hTs : (⟨T.toArray⟩ : ByteArray) = s := ba_eq (by rw [bl_mk, hT, HMT.out])
      rw [hTs]
      have HB7 := hide (belowAl HB6.out hb6)
      clear hb6 HB6 HPR2 hT0 hT hTs HMT
      go_wp2
      go_ret
      exact ⟨rfl, HB7.out⟩
    · have hne : (ce2 != 0) = true := by simpa using hz
      clear HOK hz HKW HSW HT HFW g0 g1 g2 g3 g4
      go_wp2
      go_ret
      exact ⟨rfl, belowAl HB5.out (bal (Below.refl _ _) _)⟩
end Go.Proofs.YtabnimgpednhjaaDoor
