/- What comes of a model: the law on values, steps and marks. -/
import Derived.Test.YtabnimgpednhjaaEe
import Derived.Test.YtabnimgpednhjaaEj
import Derived.Test.YtabnimgpednhjaaEk
import Derived.Test.YtabnimgpednhjaaNf
namespace Go.Proofs.Ytabnimgpednhjaa
open Go.RowKit

set_option maxRecDepth 100000 in
set_option maxHeartbeats 4000000 in
theorem readyR_any (a0 a1 a2 a3 a4 : Option Addr) (c0 c1 c2 c3 c4 : Nat) (ns : List Nd) (is xs : List (Int × Int)) (bs hs : List Int) (hln : ns.length ≤ maxLen) (hli : is.length ≤ 8796093022208) (hlx : xs.length ≤ 8796093022208) (hlb : bs.length ≤ maxLen) (hlh : hs.length ≤ maxLen) (hn3 : a3 = none → c3 = 0) (hn4 : a4 = none → c4 = 0)
    (sts ins : List Int) (hls : sts.length ≤ maxLen) (hlq : ins.length ≤ maxLen) (p4 p5 : Option Addr) (k4 k5 : Nat) (w : World) (hN : NodesAt w a0 ns) (hI : PairsAt w a1 is) (hX : PairsAt w a2 xs) (hBs : IntsAt w a3 bs) (hHs : IntsAt w a4 hs) (hS : IntsAt w p4 sts) (hT : IntsAt w p5 ins) :
    Calls Try.prog 33 #[Mv.val ⟨a0, c0, a1, is.length, c1, a2, xs.length, c2, a3, bs.length, c3, a4, hs.length, c4⟩ ns.length, .slice p4 sts.length k4, .slice p5 ins.length k5] w fun e w' => e = .returned (.int .i64 (readyE ns is xs bs hs sts ins)) ∧ Below w.heap.size w w' := by
  have HB0 : Hid (Below w.heap.size w (w.alloc (.cells (Mv.cells ⟨a0, c0, a1, is.length, c1, a2, xs.length, c2, a3, bs.length, c3, a4, hs.length, c4⟩ ns.length) 40))) := bal (Below.refl _ _) _
  have HBx := hide (Box.new w ⟨a0, c0, a1, is.length, c1, a2, xs.length, c2, a3, bs.length, c3, a4, hs.length, c4⟩ ns.length)
  have HK := hide (fun _ : Unit => checkModelR_any a0 a1 a2 a3 a4 c0 c1 c2 c3 c4 ns is xs bs hs hln hli hlx hlb hlh hn3 hn4 _ (hN.later HB0.out) (hI.later HB0.out) (hX.later HB0.out) (hBs.later HB0.out) (hHs.later HB0.out))
  have HCZ := hide (@check_zero ns is xs bs hs)
  have HRE : Hid (readyE ns is xs bs hs sts ins = if checkE ns is xs bs hs ≠ 0 then checkE ns is xs bs hs else if wordsE ns 3 sts ≠ 0 then wordsE ns 3 sts else wordsE ns 2 ins) := rfl
  have HFS := hide (fun (hl : ns.length ≤ 80) (hW : Wok ns) (w1 : World) (hb : Below w.heap.size w w1) => wordsR_any ⟨a0, c0, a1, is.length, c1, a2, xs.length, c2, a3, bs.length, c3, a4, hs.length, c4⟩ ns hl hW 3 sts p4 k4 hls w1 (hN.later hb) (hS.later hb))
  have HFI := hide (fun (hl : ns.length ≤ 80) (hW : Wok ns) (w1 : World) (hb : Below w.heap.size w w1) => wordsR_any ⟨a0, c0, a1, is.length, c1, a2, xs.length, c2, a3, bs.length, c3, a4, hs.length, c4⟩ ns hl hW 2 ins p5 k5 hlq w1 (hN.later hb) (hT.later hb))
  clear hN hI hX hBs hHs hS hT
  generalize checkE ns is xs bs hs = ce at *
  generalize readyE ns is xs bs hs sts ins = re at *
  generalize wordsE ns 3 sts = e3 at *
  generalize wordsE ns 2 ins = e2 at *
  go_enter Try.func33, Try.ntmps33
  go_wp2_with fail
  refine (HK.out ()).mono ?_
  rintro e w1 ⟨rfl, hb1⟩
  have HB1 := hide (bthen HB0.out hb1)
  have HX1 := hide (HBx.out.later hb1)
  have hbox := HX1.out
  simp only [Box] at hbox
  obtain ⟨q0, q1, q2, q3, q4⟩ := hbox
  clear hb1 HB0 HBx HK
  by_cases hce : ce = 0
  · subst hce
    obtain ⟨⟨hl, _, _⟩, hfn, _, _⟩ := HCZ.out rfl
    have HW := hide (nodes_ok hfn).1
    clear hfn HCZ
    go_wp2_with fail
    refine (HFS.out hl HW.out _ HB1.out).mono ?_
    rintro e w2 ⟨rfl, hb2⟩
    have HB2 := hide (bthen HB1.out hb2)
    have HX2 := hide (HX1.out.later hb2)
    clear q0 q1 q2 q3 q4
    have hbox := HX2.out
    simp only [Box] at hbox
    obtain ⟨q0, q1, q2, q3, q4⟩ := hbox
    clear hb2 HB1 HX1 HFS
    by_cases he3 : e3 = 0
    · subst he3
      have HR0 : Hid (re = e2) := by rw [HRE.out]; simp [Hid]
      go_wp2_with fail
      refine (HFI.out hl HW.out _ HB2.out).mono ?_
      rintro e w3 ⟨rfl, hb3⟩
      go_wp2
      go_ret
      exact ⟨ret_int HR0.out.symm, bthen HB2.out hb3⟩
    · have hne : (e3 == 0) = false := by simp [he3]
      have HR0 : Hid (re = e3) := by rw [HRE.out, if_neg (by simp), if_pos he3]; rfl
      clear HRE he3
      go_wp2
      go_ret
      exact ⟨ret_int HR0.out.symm, HB2.out⟩
  · have hne : (ce == 0) = false := by simp [hce]
    have HR0 : Hid (re = ce) := by rw [HRE.out, if_pos hce]; rfl
    clear HRE hce HCZ
    go_wp2
    go_ret
    exact ⟨ret_int HR0.out.symm, HB1.out⟩

theorem foldl_find {s : Int} : ∀ (l : List (Int × Int)) (a : Int), dup (fsts l) = false → l.foldl (fun acc p => if p.1 == s then p.2 else acc) a = match l.find? (fun p => p.1 == s) with | some p => p.2 | none => a := by
  intro l
  induction l with
  | nil => intro a _; rfl
  | cons p t ih =>
    intro a hd
    have h' : dup (p.1 :: fsts t) = false := hd
    simp only [dup, Bool.or_eq_false_iff] at h'
    simp only [List.foldl_cons]
    rw [ih _ h'.2]
    by_cases hp : (p.1 == s) = true
    · rw [if_pos hp, List.find?_cons, hp]
      have hn : t.find? (fun q => q.1 == s) = none := by
        rw [List.find?_eq_none]
        intro q hq hqs
        have hc : (fsts t).contains p.1 = true := by
          simp only [beq_iff_eq] at hp hqs
          simp only [fsts, List.contains_iff_mem, List.mem_map]
          exact ⟨q, hq, by omega⟩
        rw [h'.1] at hc
        cases hc
      rw [hn]
    · rw [if_neg hp, List.find?_cons, (Bool.not_eq_true _).mp hp]

theorem from_find {s : Int} {l : List (Int × Int)} (hd : dup (fsts l) = false) : fromOf s l = match l.find? (fun p => p.1 == s) with | some p => p.2 | none => s := foldl_find l s hd

theorem from_pair {s : Int} {l : List (Int × Int)} (hd : dup (fsts l) = false) (hs : hasSt s l = true) : fromOf s l = pairOf s l := by
  rw [from_find hd]
  unfold pairOf
  cases hf : l.find? (fun p => p.1 == s) with
  | some p => rfl
  | none =>
    exfalso
    unfold hasSt at hs
    obtain ⟨p, hp, hps⟩ := List.any_eq_true.1 hs
    have := List.find?_eq_none.1 hf p hp
    exact this hps

theorem marks_has {ns : List Nd} {xs : List (Int × Int)} {bs hs : List Int} (h : marksE ns xs bs hs = 0) : ∀ s ∈ sel (isK ns 3) ns.length, hasSt s xs = true := by
  intro s hs'
  unfold marksE at h
  split at h
  · omega
  · rename_i h1
    have := List.any_eq_false.1 ((Bool.not_eq_true _).mp h1) s hs'
    simpa using this

theorem marks_one {ns : List Nd} {xs : List (Int × Int)} {bs hs : List Int} (h : marksE ns xs bs hs = 0) : ∀ x ∈ hs, wdOf ns x = 1 := by
  intro x hx
  unfold marksE at h
  split at h
  · omega
  · split at h
    · omega
    · split at h
      · omega
      · rename_i h3
        simp only [Bool.or_eq_true, not_or, Bool.not_eq_true] at h3
        have := List.any_eq_false.1 h3.2 x hx
        simpa using this

theorem next_same {ns : List Nd} {is xs : List (Int × Int)} {bs hs : List Int} (h : checkE ns is xs bs hs = 0) (vs : List Int) : nextRL ns xs vs = followL ns xs vs := by
  obtain ⟨_, _, hp, hm⟩ := check_zero h
  unfold nextRL followL
  refine List.map_congr_left (fun s hs' => ?_)
  rw [from_pair (pairs_zero hp).2.2.2 (marks_has hm s hs')]

theorem next_in {ns : List Nd} {is xs : List (Int × Int)} {bs hs : List Int} (h : checkE ns is xs bs hs = 0) : ∀ s ∈ sel (isK ns 3) ns.length, 0 ≤ pairOf s xs ∧ pairOf s xs < ns.length := by
  intro s hs'
  obtain ⟨_, _, hp, hm⟩ := check_zero h
  rw [← from_pair (pairs_zero hp).2.2.2 (marks_has hm s hs')]
  obtain ⟨i, hi, _, rfl⟩ := mem_sel.1 hs'
  exact fromOf_in ⟨by omega, by omega⟩ (fun p hpp => (pairE_zero ((pairs_zero hp).2.1 p hpp)).2.1)

theorem holds_same {ns : List Nd} {is xs : List (Int × Int)} {bs hs sts ins : List Int} (h : readyE ns is xs bs hs sts ins = 0) : holdsR hs (vals ns sts ins ns.length) = holdsI hs 0 (vals ns sts ins ns.length) := by
  obtain ⟨hck, h3, h2⟩ := ready_zero h
  obtain ⟨_, hn, _, hm⟩ := check_zero hck
  unfold holdsR holdsI
  rw [if_pos rfl]
  have key : ∀ x ∈ hs, (vals ns sts ins ns.length).getD x.toNat 0 = 0 ∨ (vals ns sts ins ns.length).getD x.toNat 0 = 1 := by
    intro x hx
    have hr := (marks_in hm).2 x hx
    have hw := vals_isW hn h3 h2 x.toNat (by omega)
    rw [show ((x.toNat : Nat) : Int) = x by omega, marks_one hm x hx] at hw
    rw [vals_at ns sts ins (show x.toNat < ns.length by omega)]
    have := isW_iff.1 hw
    rw [show two 1 = 2 from by decide] at this
    omega
  rw [Bool.eq_iff_iff]
  simp only [List.all_eq_true, beq_iff_eq, Bool.not_eq_true', List.any_eq_false]
  constructor
  · intro hh x hx e; have := hh x hx; omega
  · intro hh x hx; have := hh x hx; have := key x hx; omega

theorem listB_zz (l : List Int) : listB l 0 0 l = true := by
  unfold listB; simp
theorem listB_nn (e : Int) : listB [] e e [] = true := by
  unfold listB; split <;> simp
theorem nextRL_len (ns : List Nd) (xs : List (Int × Int)) (vs : List Int) : (nextRL ns xs vs).length ≤ ns.length := by
  unfold nextRL; rw [List.length_map]; exact sel_len _ _

set_option maxRecDepth 100000 in
set_option maxHeartbeats 8000000 in
theorem evalValues_walk (a0 a1 a2 a3 a4 : Option Addr) (c0 c1 c2 c3 c4 : Nat) (ns : List Nd) (is xs : List (Int × Int)) (bs hs : List Int) (hln : ns.length ≤ maxLen) (hli : is.length ≤ 8796093022208) (hlx : xs.length ≤ 8796093022208) (hlb : bs.length ≤ maxLen) (hlh : hs.length ≤ maxLen) (hn3 : a3 = none → c3 = 0) (hn4 : a4 = none → c4 = 0)
    (sts ins : List Int) (hls : sts.length ≤ maxLen) (hlq : ins.length ≤ maxLen) (p4 p5 : Option Addr) (k4 k5 : Nat) (h41 : sts.length ≤ k4) (h42 : k4 ≤ maxLen) (h51 : ins.length ≤ k5) (h52 : k5 ≤ maxLen) (w : World) (hN : NodesAt w a0 ns) (hI : PairsAt w a1 is) (hX : PairsAt w a2 xs) (hBs : IntsAt w a3 bs) (hHs : IntsAt w a4 hs) (hS : IntsAt w p4 sts) (hT : IntsAt w p5 ins) :
    Calls Try.prog 9 #[Mv.val ⟨a0, c0, a1, is.length, c1, a2, xs.length, c2, a3, bs.length, c3, a4, hs.length, c4⟩ ns.length, .slice p4 sts.length k4, .slice p5 ins.length k5] w fun e w' => e = .returned (.bool true) ∧ Below w.heap.size w w' := by
  have HB0 : Hid (Below w.heap.size w (w.alloc (.cells (Mv.cells ⟨a0, c0, a1, is.length, c1, a2, xs.length, c2, a3, bs.length, c3, a4, hs.length, c4⟩ ns.length) 40))) := bal (Below.refl _ _) _
  have HBx := hide (Box.new w ⟨a0, c0, a1, is.length, c1, a2, xs.length, c2, a3, bs.length, c3, a4, hs.length, c4⟩ ns.length)
  have HKV := hide (fun (w1 : World) (hb : Below w.heap.size w w1) => values_any a0 a1 a2 a3 a4 c0 c1 c2 c3 c4 ns is xs bs hs hln hli hlx hlb hlh sts ins hls hlq (.slice p4 sts.length k4) (.slice p5 ins.length k5) w1 (hN.later hb) (hI.later hb) (hX.later hb) (hBs.later hb) (hHs.later hb) ⟨p4, k4, rfl, hS.later hb, h41, h42⟩ ⟨p5, k5, rfl, hT.later hb, h51, h52⟩)
  have HKS := hide (fun (w1 : World) (hb : Below w.heap.size w w1) => step_any a0 a1 a2 a3 a4 c0 c1 c2 c3 c4 ns is xs bs hs hln hli hlx hlb hlh sts ins hls hlq (.slice p4 sts.length k4) (.slice p5 ins.length k5) w1 (hN.later hb) (hI.later hb) (hX.later hb) (hBs.later hb) (hHs.later hb) ⟨p4, k4, rfl, hS.later hb, h41, h42⟩ ⟨p5, k5, rfl, hT.later hb, h51, h52⟩)
  have HKL := hide (fun (w1 : World) (hb : Below w.heap.size w w1) => look_any a0 a1 a2 a3 a4 c0 c1 c2 c3 c4 ns is xs bs hs hln hli hlx hlb hlh sts ins hls hlq (.slice p4 sts.length k4) (.slice p5 ins.length k5) w1 (hN.later hb) (hI.later hb) (hX.later hb) (hBs.later hb) (hHs.later hb) ⟨p4, k4, rfl, hS.later hb, h41, h42⟩ ⟨p5, k5, rfl, hT.later hb, h51, h52⟩)
  have HKR := hide (fun (w1 : World) (hb : Below w.heap.size w w1) => readyR_any a0 a1 a2 a3 a4 c0 c1 c2 c3 c4 ns is xs bs hs hln hli hlx hlb hlh hn3 hn4 sts ins hls hlq p4 p5 k4 k5 w1 (hN.later hb) (hI.later hb) (hX.later hb) (hBs.later hb) (hHs.later hb) (hS.later hb) (hT.later hb))
  have HVO := hide (fun (hl : ns.length ≤ 80) (hn : firstN (nodeAtE ns) ns.length = 0) (h3 : wordsE ns 3 sts = 0) (h2 : wordsE ns 2 ins = 0) (w1 : World) (hb : Below w.heap.size w w1) => valuesOf_any ⟨a0, c0, a1, is.length, c1, a2, xs.length, c2, a3, bs.length, c3, a4, hs.length, c4⟩ ns hl hn sts ins h3 h2 p4 p5 k4 k5 w1 (hN.later hb) (hS.later hb) (hT.later hb))
  have HNO := hide (fun (hl : ns.length ≤ 80) (hin : ∀ s ∈ sel (isK ns 3) ns.length, 0 ≤ pairOf s xs ∧ pairOf s xs < (ns.length : Int)) (vs : List Int) (hvs : vs.length = ns.length) (pv : Option Addr) (cv : Nat) (w1 : World) (hb : Below w.heap.size w w1) (hV : IntsAt w1 pv vs) => nextOf_any a0 a1 a2 a3 a4 c0 c1 c2 c3 c4 is.length bs.length hs.length ns xs hl hlx hin vs hvs pv cv w1 (hN.later hb) (hX.later hb) hV)
  have HMO := hide (fun (h8 : bs.length ≤ 8) (h9 : hs.length ≤ 8) (vs : List Int) (hvs : vs.length ≤ 80) (hb' : ∀ x ∈ bs, 0 ≤ x ∧ x < (vs.length : Int)) (hh' : ∀ x ∈ hs, 0 ≤ x ∧ x < (vs.length : Int)) (pv : Option Addr) (cv : Nat) (w1 : World) (hb : Below w.heap.size w w1) (hV : IntsAt w1 pv vs) => marksOf_any a0 a1 a2 a3 a4 c0 c1 c2 c3 c4 is.length xs.length ns.length bs hs h8 h9 vs hvs hb' hh' pv cv w1 (hBs.later hb) (hHs.later hb) hV)
  have HRZ := hide (@ready_zero ns is xs bs hs sts ins)
  have HHS := hide (@holds_same ns is xs bs hs sts ins)
  clear hN hI hX hBs hHs hS hT
  generalize hre : readyE ns is xs bs hs sts ins = re at *
  have HRe := hide hre
  clear hre
  generalize hhI : holdsI hs re (vals ns sts ins ns.length) = hB at *
  generalize hbI : badI bs re (vals ns sts ins ns.length) = bB at *
  have HhI := hide hhI
  have HbI := hide hbI
  clear hhI hbI
  go_enter Try.func9, Try.ntmps9
  go_wp2_with fail
  refine (HKV.out _ HB0.out).mono ?_
  rintro e w1 ⟨p1, k1, lv, rfl, hlv, hJ1, hb1⟩
  have HB1 := hide (bthen HB0.out hb1)
  have HX1 := hide (HBx.out.later hb1)
  have HJv := hide hJ1
  have HLv := hide hlv
  clear hb1 HB0 HBx hJ1 HKV hlv
  have hbox := HX1.out
  simp only [Box] at hbox
  obtain ⟨q0, q1, q2, q3, q4⟩ := hbox
  go_wp2_with fail
  refine (HKS.out _ HB1.out).mono ?_
  rintro e w2 ⟨p2, k2, ln, rfl, hln', hJ2, hb2⟩
  have HB2 := hide (bthen HB1.out hb2)
  have HX2 := hide (HX1.out.later hb2)
  have HJv := hide (HJv.out.later hb2)
  have HJn := hide hJ2
  have HLn := hide hln'
  clear hb2 HB1 HX1 hJ2 HKS hln' q0 q1 q2 q3 q4
  have hbox := HX2.out
  simp only [Box] at hbox
  obtain ⟨q0, q1, q2, q3, q4⟩ := hbox
  go_wp2_with fail
  refine (HKL.out _ HB2.out).mono ?_
  rintro e w3 ⟨rfl, hb3⟩
  have HB3 := hide (bthen HB2.out hb3)
  have HX3 := hide (HX2.out.later hb3)
  have HJv := hide (HJv.out.later hb3)
  have HJn := hide (HJn.out.later hb3)
  clear hb3 HB2 HX2 HKL q0 q1 q2 q3 q4
  have hbox := HX3.out
  simp only [Box] at hbox
  obtain ⟨q0, q1, q2, q3, q4⟩ := hbox
  go_wp2_with fail
  refine (HKR.out _ HB3.out).mono ?_
  rintro e w4 ⟨rfl, hb4⟩
  have HB4 := hide (bthen HB3.out hb4)
  have HX4 := hide (HX3.out.later hb4)
  have HJv := hide (HJv.out.later hb4)
  have HJn := hide (HJn.out.later hb4)
  clear hb4 HB3 HX3 HKR q0 q1 q2 q3 q4
  have hbox := HX4.out
  simp only [Box] at hbox
  obtain ⟨q0, q1, q2, q3, q4⟩ := hbox
  by_cases hr0 : re = 0
  · subst hr0
    obtain ⟨hck, h3, h2⟩ := HRZ.out rfl
    obtain ⟨⟨hl, h8, h9⟩, hfn, hps, hmk⟩ := check_zero hck
    have HMI := hide (marks_in hmk)
    have HNI := hide (next_in hck)
    have HNS := hide (next_same hck)
    have HHH := hide (HHS.out rfl)
    have HVo := hide (HVO.out hl hfn h3 h2)
    have HLV : Hid (lv = vals ns sts ins ns.length) := by rw [HLv.out]; unfold valsI; rw [if_pos rfl]; rfl
    have HLN : Hid (ln = followL ns xs (vals ns sts ins ns.length)) := by rw [HLn.out]; unfold nextI; rw [if_pos rfl]; rfl
    have HVL := hide (vals_len ns sts ins ns.length)
    have HbE : Hid (badR bs (vals ns sts ins ns.length) = bB) := by rw [← HbI.out]; unfold badI badR; rw [if_pos rfl]; rfl
    have HhE : Hid (holdsR hs (vals ns sts ins ns.length) = hB) := by rw [← HhI.out]; exact HHH.out
    clear HRZ HHS HVO hck h3 h2 hfn hps hmk HLv HLn HHH HhI HbI HRe
    generalize vals ns sts ins ns.length = vs at *
    go_wp2_with fail
    refine (HVo.out _ HB4.out).mono ?_
    rintro e w5 ⟨g, rfl, hR, hb5⟩
    have HB5 := hide (bthen HB4.out hb5)
    have HX5 := hide (HX4.out.later hb5)
    have HJv := hide (HJv.out.later hb5)
    have HJn := hide (HJn.out.later hb5)
    have HR := hide (irow_ints hR)
    have HNo := hide (fun (w1 : World) (hb : Below w.heap.size w w1) (hV : IntsAt w1 (some ⟨g, 0, none⟩) vs) => HNO.out hl HNI.out vs HVL.out (some ⟨g, 0, none⟩) ns.length w1 hb hV)
    have HMo := hide (fun (w1 : World) (hb : Below w.heap.size w w1) (hV : IntsAt w1 (some ⟨g, 0, none⟩) vs) => HMO.out h8 h9 vs (by rw [HVL.out]; exact hl) (by rw [HVL.out]; exact HMI.out.1) (by rw [HVL.out]; exact HMI.out.2) (some ⟨g, 0, none⟩) ns.length w1 hb hV)
    rw [HVL.out] at HNo HMo
    rw [HhE.out, HbE.out] at HMo
    clear hb5 hR HB4 HX4 HVo HNO HMO q0 q1 q2 q3 q4
    have hbox := HX5.out
    simp only [Box] at hbox
    obtain ⟨q0, q1, q2, q3, q4⟩ := hbox
    go_wp2_with fail
    refine (HNo.out _ HB5.out HR.out).mono ?_
    rintro e w6 ⟨p6, k6, rfl, hJ6, hb6⟩
    have HB6 := hide (bthen HB5.out hb6)
    have HX6 := hide (HX5.out.later hb6)
    have HJv := hide (HJv.out.later hb6)
    have HJn := hide (HJn.out.later hb6)
    have HR := hide (HR.out.later hb6)
    have HJ6 := hide hJ6
    clear hb6 hJ6 HB5 HX5 HNo q0 q1 q2 q3 q4
    have hbox := HX6.out
    simp only [Box] at hbox
    obtain ⟨q0, q1, q2, q3, q4⟩ := hbox
    go_wp2_with fail
    refine (HMo.out _ HB6.out HR.out).mono ?_
    rintro e w7 ⟨rfl, hb7⟩
    have HB7 := hide (bthen HB6.out hb7)
    have HJv := hide (HJv.out.later hb7)
    have HJn := hide (HJn.out.later hb7)
    have HR := hide (HR.out.later hb7)
    have HJ6 := hide (HJ6.out.later hb7)
    clear hb7 HB6 HX6 HMo q0 q1 q2 q3 q4
    go_wp2_with fail
    refine (evalBegun_any _).mono ?_
    rintro e w8 ⟨rfl, hb8⟩
    have HB8 := hide (bthen HB7.out hb8)
    have HJv := hide (HJv.out.later hb8)
    have HJn := hide (HJn.out.later hb8)
    have HR := hide (HR.out.later hb8)
    have HJ6 := hide (HJ6.out.later hb8)
    have HT1 : Hid (listB lv 0 0 vs = true) := by rw [HLV.out]; exact listB_zz vs
    have HT2 : Hid (listB ln 0 0 (nextRL ns xs vs) = true) := by rw [HLN.out, HNS.out]; exact listB_zz _
    have hnl := nextRL_len ns xs vs
    have HLI := hide (fun _ : Unit => listIs_any p1 (some ⟨g, 0, none⟩) k1 ns.length lv vs 0 0 (by rw [HLV.out, HVL.out]; unfold maxLen; omega) (by rw [HVL.out]; unfold maxLen; omega) w8 HJv.out HR.out)
    rw [HT1.out, HVL.out] at HLI
    have HL2 := hide (fun (w9 : World) (hb : Below w8.heap.size w8 w9) => listIs_any p2 p6 k2 k6 ln (nextRL ns xs vs) 0 0 (by rw [HLN.out, ← HNS.out]; unfold maxLen; omega) (by unfold maxLen; omega) w9 (HJn.out.later hb) (HJ6.out.later hb))
    rw [HT2.out] at HL2
    clear hb8 HB7 HT1 HT2
    go_wp2_with fail
    refine (HLI.out ()).mono ?_
    rintro e w9 ⟨rfl, hb9⟩
    have HB9 := hide (bthen HB8.out hb9)
    have HL3 := hide (HL2.out _ hb9)
    clear hb9 HB8 HL2 HLI
    go_wp2_with fail
    refine HL3.out.mono ?_
    rintro e w10 ⟨rfl, hb10⟩
    have HBz := hide (bthen HB9.out hb10)
    clear hb10 HB9 HL3
    cases hB <;> cases bB
    all_goals
      go_wp2
      go_ret
      exact ⟨rfl, HBz.out⟩
  · have hne : (re == 0) = false := by simp [hr0]
    have hee : (re == re) = true := by simp
    have HLV : Hid (lv = []) := by rw [HLv.out]; unfold valsI; rw [if_neg hr0]; rfl
    have HLN : Hid (ln = []) := by rw [HLn.out]; unfold nextI; rw [if_neg hr0]; rfl
    obtain rfl : hB = false := by rw [← HhI.out]; unfold holdsI; rw [if_neg hr0]
    obtain rfl : bB = false := by rw [← HbI.out]; unfold badI; rw [if_neg hr0]
    obtain rfl := HLV.out
    obtain rfl := HLN.out
    clear HRZ HHS HVO HNO HMO HLv HLn HhI HbI HRe hr0 HLV HLN
    go_wp2_with fail
    refine (evalBegun_any _).mono ?_
    rintro e w8 ⟨rfl, hb8⟩
    have HB8 := hide (bthen HB4.out hb8)
    have HLI := hide (fun _ : Unit => listIs_any p1 none k1 0 [] [] re re (by simp) (by simp) w8 (HJv.out.later hb8) (fun h => by simp at h))
    rw [listB_nn] at HLI
    have HL2 := hide (fun (w9 : World) (hb : Below w8.heap.size w8 w9) => listIs_any p2 none k2 0 [] [] re re (by simp) (by simp) w9 ((HJn.out.later hb8).later hb) (fun h => by simp at h))
    rw [listB_nn] at HL2
    clear hb8 HB4
    go_wp2_with fail
    refine (HLI.out ()).mono ?_
    rintro e w9 ⟨rfl, hb9⟩
    have HB9 := hide (bthen HB8.out hb9)
    have HL3 := hide (HL2.out _ hb9)
    clear hb9 HB8 HL2 HLI
    go_wp2_with fail
    refine HL3.out.mono ?_
    rintro e w10 ⟨rfl, hb10⟩
    go_wp2
    go_ret
    exact ⟨rfl, bthen HB9.out hb10⟩

end Go.Proofs.Ytabnimgpednhjaa
