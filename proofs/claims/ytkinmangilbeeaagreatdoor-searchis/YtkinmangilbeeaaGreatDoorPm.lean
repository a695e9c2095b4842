/- A board: a clause that has numbers is added, the walk. -/
import Derived.Test.YtkinmangilbeeaaGreatDoorPlM
namespace Go.Proofs.YtkinmangilbeeaaGreatDoor.Pf
open Go.RowKit Go.Maps Go.WideMaps
set_option maxRecDepth 100000

theorem row_base {w : World} {base : Nat} {e : TypeId} {sz : Nat} {v : Value} {n : Nat} {xs : List Value} (h : w.ownsRow base e sz v n xs) : w.ownsRow 0 e sz v n xs := by
  refine ⟨h.1, ?_⟩
  rcases h.2 with hn | ⟨g, cap, cur, hv, _, rest⟩
  · exact .inl hn
  · exact .inr ⟨g, cap, cur, hv, Nat.zero_le _, rest⟩
theorem Mb.frG {w w1 : World} {X : Nat → Prop} {R S W nS nW : Nat} {vc vs : Value} {wk : Int} {cg cc : Nat → Nat} {wv : Int → Value} {B : Bd} (h : Mb w X R S W nS nW vc vs wk cg cc wv B) {G : Nat} (hG : ¬ X G) (hF : Fr (fun g => g = G) w w1 (fun g => g = G)) : Mb w1 X R S W nS nW vc vs wk cg cc wv B :=
  h.apart hF.size fun g hg => hF.far g (h.xb g hg) fun e => hG (e ▸ hg)
theorem Fr.new {X : Nat → Prop} {w w1 w2 : World} {G : Nat} (h : Fr X w w1 X) (hG : w.heap.size ≤ G) (hF : Fr (fun g => g = G) w1 w2 (fun g => g = G)) : Fr X w w2 X :=
  ⟨hF.os.trans h.os, hF.tape.trans h.tape, hF.output.trans h.output, Nat.le_trans h.size hF.size, fun g hg hx => (hF.far g (Nat.lt_of_lt_of_le hg h.size) (fun e => by omega)).trans (h.far g hg hx), fun _ e => e, fun _ _ e => e⟩
set_option maxHeartbeats 2000000 in
theorem add1_any (w : World) (X : Nat → Prop) (R S W nS nW : Nat) (vc vs : Value) (wk : Int) (cg cc : Nat → Nat) (wv : Int → Value) (B : Bd) (h : Mb w X R S W nS nW vc vs wk cg cc wv B) (q : Option Addr) (cq : Nat) (l : List Int) (hl : l.length ≤ 200) (hl0 : 0 < l.length) (hsm : ∀ x ∈ l, Small x) (hI : IntsAt w q l) (hcl : B.cl.length ≤ 1000000) (hspl : B.sp.length ≤ 1000000) (hnS : nS ≤ 1000000000000000) (hwt : ∀ x, (B.wt x).length ≤ 999999) (hnW : nW ≤ 999999999999999998) :
    Calls Tryz.prog 26 #[.pointer (some ⟨R, 0, none⟩), .slice q l.length cq] w (AddOut w X R S W nS nW B l) := by
  have HCL := hide (cloneI_any q cq l (by omega) w hI)
  have H := hide h
  have HSM := hide hsm
  clear h hI hsm
  go_enter Tryz.func26, Tryz.ntmps26
  go_wp2_with fail
  refine HCL.out.mono ?_
  rintro e w1 ⟨v, rfl, ho, hb1⟩
  obtain ⟨G, cap, hv, hGn⟩ : ∃ G cap, v = .slice (some ⟨G, 0, none⟩) l.length cap ∧ w.heap.size ≤ G := by
    rcases ho.2 with ⟨_, h0⟩ | ⟨g, c, cur, hv, hb, _⟩
    · omega
    · exact ⟨g, c, hv, hb⟩
  subst hv
  have HG : Hid (¬ X G) := fun e => by have := H.out.xb G e; omega
  have H1 := hide (H.out.later hb1)
  have HF1 : Hid (Fr X w w1 X) := Fr.quiet hb1
  have HS1 := hide (sort_any w1 G cap l hl (row_base ho))
  clear ho hb1 HCL
  go_wp2_with fail
  refine HS1.out.mono ?_
  rintro e w2 ⟨rfl, ho2, hf2⟩
  have H2 := hide (H1.out.frG HG.out hf2)
  have HF2 := hide (HF1.out.new hGn hf2)
  have hsl : (l.mergeSort fun x y => decide (x ≤ y)).length = l.length := by simp
  have HC2 := hide (compact_any w2 G cap (l.mergeSort fun x y => decide (x ≤ y)) (by omega) (by rw [hsl]; exact ho2))
  rw [hsl] at HC2
  have hd0 : Lib.compact (l.mergeSort fun x y => decide (x ≤ y)) = sortC l := rfl
  rw [hd0] at HC2
  have HOK := hide (sortC_ok l)
  have HLE : Hid ((sortC l).length ≤ l.length) := by unfold Hid; rw [← hd0, ← hsl]; exact Lib.compact_length_le _
  have HPO : Hid (0 < (sortC l).length) := by
    unfold Hid
    refine List.length_pos_of_mem ((sortC_ok l).1 l[0] |>.2 (List.getElem_mem hl0))
  clear ho2 hf2 HS1 H1 HF1 hsl hd0
  go_wp2_with fail
  refine HC2.out.mono ?_
  rintro e w3 ⟨rfl, ho3, hf3⟩
  have H3 := hide (H2.out.frG HG.out hf3)
  have HF3 := hide (HF2.out.new hGn hf3)
  have HP3 := hide (pull_any w3 X R S W nS nW vc vs wk cg cc wv B H3.out G cap (sortC l) (by have := HLE.out; omega) (fun x hx => HSM.out x ((HOK.out.1 x).1 hx)) ho3 HG.out 0 (by omega))
  clear ho3 hf3 HC2 H2 HF2
  go_wp2_with fail
  refine HP3.out.mono ?_
  rintro e w4 ⟨rfl, d1, hpu1, ho4, hM4, hf4⟩
  have H4 := hide hM4
  have HF4 := hide (HF3.out.new hGn hf4)
  have HPU1 := hide hpu1
  have hdl : d1.length = (sortC l).length := hpu1.perm.length_eq
  have HP4 := hide (pull_any w4 X R S W nS nW vc vs wk cg cc wv B hM4 G cap d1 (by rw [hdl]; have := HLE.out; omega) (fun x hx => HSM.out x ((HOK.out.1 x).1 (hpu1.perm.mem_iff.1 hx))) (by rw [hdl]; exact ho4) HG.out 1 (by omega))
  rw [hdl] at HP4
  have HDL := hide hdl
  clear hpu1 ho4 hM4 hf4 hdl H3 HF3 HP3
  go_wp2_with fail
  refine HP4.out.mono ?_
  rintro e w5 ⟨rfl, d2, hpu2, ho5, hM5, hf5⟩
  have H5 := hide hM5
  have HF5 := hide (HF4.out.new hGn hf5)
  have HLD := hide (laid_of HPU1.out (by have := hpu2; rw [HDL.out]; exact this))
  have HLX : Hid (Laid B l d2 ∧ d2 = layD B.st l) := ⟨HLD.out, by
    unfold layD
    rw [← HPU1.out.ex]
    exact hpu2.ex⟩
  have HD2 : Hid (d2.length = (sortC l).length) := hpu2.perm.length_eq.trans HDL.out
  have HR5 := hide ho5
  clear hpu2 ho5 hM5 hf5 H4 HF4 HP4
  simp only [← HD2.out]
  rw [← HD2.out] at HR5 HLE HPO
  clear HD2 HDL HPU1 HOK
  obtain ⟨a, r, hd2⟩ : ∃ a r, d2 = a :: r := by
    cases d2 with
    | nil => have := HPO.out; simp at this
    | cons a r => exact ⟨a, r, rfl⟩
  have hlm : d2.length ≤ 200 := by have := HLE.out; omega
  have hm0 : 0 < d2.length := HPO.out
  have hm0i : (0 : Int) < (d2.length : Int) := by omega
  have hm0n : ¬ ((d2.length : Nat) : Int) = 0 := by omega
  have hm0m : ¬ d2.length = 0 := by omega
  have hm0b : (((d2.length : Nat) : Int) == 0) = false := by simpa using hm0m
  have hm0d : decide (((d2.length : Nat) : Int) = 0) = false := by simpa using hm0m
  obtain ⟨x0, fx0⟩ := row_cell HR5.out hm0
  have hga : d2.getD 0 0 = a := by rw [hd2]; rfl
  rw [hga] at x0
  have hsa : Small a := HSM.out a ((HLD.out.mem a).1 (by rw [hd2]; simp))
  have HIN := hide (isNot_any R S nS B.st a hsa w5 H5.out.c5 H5.out.so)
  have HD := hide hd2
  have HGA := hide hga
  clear hd2 hga
  by_cases hna : -a ∈ B.st
  · have hd : decide (-a ∈ B.st) = true := by simpa using hna
    rw [hd] at HIN
    have c3 := H5.out.c3
    have f3 := H5.out.fz 3
    have HM := hide H5.out.lose
    have HF : Hid (Fr X w (w5.setCell ⟨R, 3, none⟩ (.bool true)) X) := HF5.out.trans (Fr.set (q := ⟨R, 3, none⟩) H5.out.xr _)
    have HNA := hide hna
    clear hd hna
    go_wp2_with (go_at_call 36; refine HIN.out.mono ?_; rintro e w' ⟨rfl, hw'⟩; obtain rfl : w5 = w' := hw'.symm)
    go_end0
    refine ⟨rfl, d2, X, nS, nW, vc, vs, wk, cg, cc, wv, HLX.out, HLE.out, ?_, HF.out, by omega, by omega⟩
    unfold Bd.add
    rw [if_pos (.inr (by rw [HGA.out]; exact HNA.out))]
    exact HM.out
  · have hd : decide (-a ∈ B.st) = false := by simpa using hna
    rw [hd] at HIN
    have HNA := hide hna
    clear hd hna
    have c0 := H5.out.c0
    have f0 := H5.out.fz 0
    obtain ⟨pc, kc, hvc⟩ : ∃ p c, vc = .slice p B.cl.length c := by
      rcases H5.out.rw.2 with ⟨e, e0⟩ | ⟨g, c, cur, e, _⟩
      · rw [e0]; exact ⟨_, _, e⟩
      · exact ⟨_, _, e⟩
    subst hvc
    go_upto_region 8 with (go_at_call 36; refine HIN.out.mono ?_; rintro e w' ⟨rfl, hw'⟩; obtain rfl : w5 = w' := hw'.symm)
    have HRWc := hide H5.out.rw
    obtain ⟨i0, hi, hz0, hz1, hz2⟩ := info_parts infoR
    have hRlt := World.block_lt_of_cell? _ _ c0
    simp only at hRlt
    have hRne := World.new_ne w5 ⟨R, 0, none⟩ c0
    simp only at hRne
    have hone : ∀ j u, ([.slice (some ⟨G, 0, none⟩) d2.length cap] : List Value)[j]? = some u → (w5.alloc (.cells #[.slice (some ⟨G, 0, none⟩) d2.length cap] 38)).cell? ((⟨w5.heap.size, 0, none⟩ : Addr).add j) = some u := fun j u hj => by
      match j, hj with
      | 0, hj => simp at hj; subst hj; simp [go_sem, Addr.add]
    have HONE := hide hone
    have HNV : Hid (Value.ownBlock (.slice pc B.cl.length kc) ≠ some R) := row_ne H5.out.rw H5.out.bd (by decide)
    clear hone
    go_wp2_with (at_builtin; refine wpList_append_lies _ rfl _ _ 22 rfl 0 38 i0 (.slice none 0 0) 1 24 Tryz.underlying22 hi hz0 hz1 hz2 rfl (by decide) (.slice pc B.cl.length kc) B.cl.length _ rfl (HRWc.out.alloc _) ⟨w5.heap.size, 0, none⟩ 1 1 [.slice (some ⟨G, 0, none⟩) d2.length cap] rfl rfl ?d0 ?d1 (by omega) ?d2 ?d3 ?d4 _ rfl ?_)
    case d0 => exact HONE.out
    case d1 => intro u hu; simp at hu; subst hu; rfl
    case d2 => unfold maxLen; omega
    case d3 => omega
    case d4 => exact Nat.zero_le _
    intro g cap2 w6 hown6 hg6 hat6 hlt6
    have ha5 : Below w5.heap.size w5 (w5.alloc (.cells #[.slice (some ⟨G, 0, none⟩) d2.length cap] 38)) := bal (Below.refl _ _) _
    have hb6 : ∀ k, k < w5.heap.size → Value.ownBlock (.slice pc B.cl.length kc) ≠ some k → w6.heap[k]? = w5.heap[k]? := fun k hk hne => (hg6.block k (by have := ha5.size; omega) (fun e => hne e.symm)).trans (ha5.block k hk)
    have t6 := (hb6 R hRlt HNV.out).trans H5.out.bd
    have hs6 := hg6.size
    have hs5 := ha5.size
    simp at hs6
    have hGlt : G < w5.heap.size := (HR5.out.lt G rfl).2
    have hGR : G ≠ R := fun e => HG.out (e ▸ H5.out.xr)
    have hGv : Value.ownBlock (.slice pc B.cl.length kc) ≠ some G := fun e => HG.out (H5.out.xc G e)
    have hgR : g ≠ R := fun e => by
      rcases hat6 with e' | e'
      · exact HNV.out (e ▸ e')
      · first | omega | (simp at e'; omega)
    have g0 : w6.cell? ⟨R, 0, none⟩ = some (.slice pc B.cl.length kc) := by rw [Lib.cell_of_heap t6]; rfl
    have f6 : w6.frozen? ⟨R, 0, none⟩ = false := Lib.frozen_of_heap t6 0
    have HFN : Hid (∀ k, k < w5.heap.size → k ≠ R → Value.ownBlock (.slice pc B.cl.length kc) ≠ some k → (w6.setCell ⟨R, 0, none⟩ (.slice (some ⟨g, 0, none⟩) (B.cl.length + 1) cap2)).heap[k]? = w5.heap[k]?) := fun k hk h1 h2 => (Below.heap_setCell _ _ _ _ h1).trans (hb6 k hk h2)
    have H7 : Hid (Mb (w6.setCell ⟨R, 0, none⟩ (.slice (some ⟨g, 0, none⟩) (B.cl.length + 1) cap2)) (fun k => X k ∨ k = g ∨ k = G) R S W nS nW (.slice (some ⟨g, 0, none⟩) (B.cl.length + 1) cap2) vs wk (fun i => if i = B.cl.length then G else cg i) (fun i => if i = B.cl.length then cap else cc i) wv { B with cl := B.cl ++ [d2] }) := by
      refine H5.out.addCl HFN.out (fun k hk => .inl hk) HG.out ?_ ?_ ?_ (fun k hk => ?_) (.inr (.inr rfl)) (fun k hk => ?_)
      · rw [heap_setCell_same _ _ _ _ _ _ t6]; rfl
      · exact ownsRow_setCell_other hown6 (by simpa [Value.ownBlock] using hgR) _
      · exact row_same HR5.out fun k hk => by
          simp only [Value.ownBlock, Option.some.injEq] at hk
          subst hk
          exact HFN.out _ hGlt hGR hGv
      · simp only [Value.ownBlock, Option.some.injEq] at hk
        exact .inr (.inl hk.symm)
      · rw [size_set]
        rcases hk with hk | rfl | rfl
        · have := H5.out.xb k hk; omega
        · exact hlt6
        · omega
    have HF7 : Hid (Fr X w (w6.setCell ⟨R, 0, none⟩ (.slice (some ⟨g, 0, none⟩) (B.cl.length + 1) cap2)) (fun k => X k ∨ k = g ∨ k = G)) := by
      have hb0 : Below 0 w5 (w6.setCell ⟨R, 0, none⟩ (.slice (some ⟨g, 0, none⟩) (B.cl.length + 1) cap2)) := ((ha5.mono (Nat.zero_le _)).grown hg6 (Nat.zero_le _) (fun _ _ => Nat.zero_le _)).setCell (Nat.zero_le _) _
      have hs0 := HF5.out.size
      refine ⟨hb0.os.trans HF5.out.os, hb0.tape.trans HF5.out.tape, hb0.output.trans HF5.out.output, Nat.le_trans hs0 hb0.size, fun k hk hx => (HFN.out k (by omega) (fun e => hx (e ▸ H5.out.xr)) (fun e => hx (H5.out.xc k e))).trans (HF5.out.far k hk hx), fun k hk => .inl hk, fun k hk hx => ?_⟩
      rcases hx with hx | rfl | rfl
      · exact hx
      · rcases hat6 with e' | e'
        · exact H5.out.xc _ e'
        · first | omega | (simp at e'; omega)
      · omega
    have hG7 := HFN.out G hGlt hGR hGv
    have HC7 : Hid (∀ j, w5.cell? ⟨G, j, none⟩ = (w6.setCell ⟨R, 0, none⟩ (.slice (some ⟨g, 0, none⟩) (B.cl.length + 1) cap2)).cell? ⟨G, j, none⟩) := fun j => (World.cell?_of_block (a := ⟨G, j, none⟩) hG7).symm
    have HR5' := hide HR5.out
    clear hown6 hg6 hat6 hlt6 ha5 hb6 hgR hG7
    go_upto_region 9 with fail
    generalize w6.setCell ⟨R, 0, none⟩ (.slice (some ⟨g, 0, none⟩) (B.cl.length + 1) cap2) = w7 at *
    clear g0 f6 t6 HFN
    have x7 : w7.cell? ⟨G, 0, none⟩ = some (.int .i64 a) := by rw [← HC7.out 0]; exact x0
    have HSO := hide (isSo_any R S nS B.st a hsa w7 H7.out.c5 H7.out.so)
    have HWT := hide hwt
    clear hwt
    cases hr : r with
    | nil =>
      have hl1 : d2.length = 1 := by rw [HD.out, hr]; rfl
      by_cases hsa' : a ∈ B.st
      · have hd : decide (a ∈ B.st) = true := by simpa using hsa'
        rw [hd] at HSO
        have HAD : Hid (B.add d2 = { B with cl := B.cl ++ [d2] }) := by
          unfold Hid Bd.add
          rw [if_neg (by rw [HGA.out]; rintro (e | e); · rw [HD.out] at e; simp at e
                         · exact HNA.out e), if_neg (by rw [HGA.out]; exact fun e => e.1 hsa')]
          rw [HD.out, hr]; rfl
        have hl1i : ((d2.length : Nat) : Int) = 1 := by omega
        clear hd hsa' hr
        go_wp2_with (go_at_call 35; refine HSO.out.mono ?_; rintro e w' ⟨rfl, hw'⟩; obtain rfl : w7 = w' := hw'.symm)
        go_end0
        exact ⟨rfl, d2, _, nS, nW, _, vs, wk, _, _, wv, HLX.out, HLE.out, by rw [HAD.out]; exact H7.out, HF7.out, by omega, by omega⟩
      · have hd : decide (a ∈ B.st) = false := by simpa using hsa'
        rw [hd] at HSO
        have HAD : Hid (B.add d2 = ({ B with cl := B.cl ++ [d2] } : Bd).put a B.cl.length) := by
          unfold Hid Bd.add
          rw [if_neg (by rw [HGA.out]; rintro (e | e); · rw [HD.out] at e; simp at e
                         · exact HNA.out e), if_pos (by rw [HGA.out]; exact ⟨hsa', .inl hl1⟩), HGA.out]
          rw [HD.out, hr]; rfl
        have HPU := hide (put_any w7 _ R S W nS nW _ vs wk _ _ wv _ H7.out a (B.cl.length : Nat) hsa hsa' hspl hnS)
        have hl1i : ((d2.length : Nat) : Int) = 1 := by omega
        clear hd hsa' hr
        go_wp2_with (first | (go_at_call 35; refine HSO.out.mono ?_; rintro e w' ⟨rfl, hw'⟩; obtain rfl : w7 = w' := hw'.symm) | (go_at_call 43; refine HPU.out.mono ?_; rintro e w8 ⟨rfl, X8, vs8, wk8, hM8, hF8⟩))
        have HM8 := hide hM8
        have HF8 := hide (HF7.out.trans hF8)
        clear hM8 hF8
        go_end0
        exact ⟨rfl, d2, X8, nS + 1, nW, _, vs8, wk8, _, _, wv, HLX.out, HLE.out, by rw [HAD.out]; exact HM8.out, HF8.out, by omega, by omega⟩
    | cons b r' =>
      have hl2 : 1 < d2.length := by rw [HD.out, hr]; simp
      have hl2i : (1 : Int) < (d2.length : Int) := by omega
      have hl2n : ¬ d2.length = 1 := by omega
      have hl2m : ¬ ((d2.length : Nat) : Int) = 1 := by omega
      have hl2b : (((d2.length : Nat) : Int) == 1) = false := by simp only [beq_eq_false_iff_ne, ne_eq]; omega
      have hgb : d2.getD 1 0 = b := by rw [HD.out, hr]; rfl
      have y7 : w7.cell? ⟨G, 1, none⟩ = some (.int .i64 b) := by rw [← HC7.out 1, ← hgb]; exact (row_cell HR5.out hl2).1
      have hsb : Small b := HSM.out b ((HLD.out.mem b).1 (by rw [HD.out, hr]; simp))
      have hab : a ≠ b := by
        have := HLD.out.nd
        rw [HD.out, hr] at this
        intro e
        subst e
        simp at this
      have HCE : Hid (∀ (u : World) (X' : Nat → Prop) (nW' : Nat) (wv' : Int → Value) (wt' : Int → List (Nat × Int)), Mb u X' R S W nS nW' (.slice (some ⟨g, 0, none⟩) (B.cl.length + 1) cap2) vs wk (fun i => if i = B.cl.length then G else cg i) (fun i => if i = B.cl.length then cap else cc i) wv' { B with cl := B.cl ++ [d2], wt := wt' } → u.cell? ⟨G, 0, none⟩ = some (.int .i64 a) ∧ u.cell? ⟨G, 1, none⟩ = some (.int .i64 b)) := fun u X' nW' wv' wt' hM => by
        have hgd : (B.cl ++ [d2]).getD B.cl.length [] = d2 := by simp [List.getD]
        have h0 := hM.ints (i := B.cl.length) (by simp) (j := 0) (by simp only [hgd]; exact hm0)
        have h1 := hM.ints (i := B.cl.length) (by simp) (j := 1) (by simp only [hgd]; exact hl2)
        simp only [hgd, if_true] at h0 h1
        simp only [HD.out, hr, List.getElem_cons_zero, List.getElem_cons_succ] at h0 h1
        exact ⟨h0, h1⟩
      have HWA := hide (fun (u : World) (hu : Below w7.heap.size w7 u) => watch_any u _ R S W nS nW _ vs wk _ _ wv _ (H7.out.later hu) a B.cl.length b hsa (show (B.wt a).length ≤ 1000000 by have := HWT.out a; omega) (by omega))
      go_upto_region 10 with fail
      go_region_held3 (fun w' => w'.cell? ⟨G, 0, none⟩ = some (.int .i64 a) ∧ w'.cell? ⟨G, 1, none⟩ = some (.int .i64 b)) (first | exact ⟨x7, y7⟩ | exact ⟨a8, b8⟩ | go_keep)
        ((go_at_call 42; refine (HWA.out w7.drew (Below.refl _ w7).drew).mono ?_; rintro e w8 ⟨rfl, X8, v8, hM8, hF8⟩; have HM8 := hide hM8; have HF8 := hide (HF7.out.trans ((Fr.quiet (Below.refl _ w7).drew).trans hF8)); obtain ⟨a8, b8⟩ := HCE.out _ _ _ _ _ hM8; clear hM8 hF8))
      have HWB := hide (fun (u : World) (hu : Below w8.heap.size w8 u) => watch_any u X8 R S W nS (nW + 1) _ vs wk _ _ _ _ (HM8.out.later hu) b B.cl.length a hsb (show (upd B.wt a (B.wt a ++ [(B.cl.length, b)]) b).length ≤ 1000000 by rw [upd_ne _ _ (Ne.symm hab)]; have := HWT.out b; omega) (by omega))
      go_upto_region 11 with fail
      go_region_held3 (fun w' => w'.cell? ⟨G, 0, none⟩ = some (.int .i64 a) ∧ w'.cell? ⟨G, 1, none⟩ = some (.int .i64 b)) (first | exact ⟨a8, b8⟩ | exact ⟨a9, b9⟩ | go_keep)
        ((go_at_call 42; refine (HWB.out w8.drew (Below.refl _ w8).drew).mono ?_; rintro e w9 ⟨rfl, X9, v9, hM9, hF9⟩; have HM9 := hide hM9; have HF9 := hide (HF8.out.trans ((Fr.quiet (Below.refl _ w8).drew).trans hF9)); obtain ⟨a9, b9⟩ := HCE.out _ _ _ _ _ hM9; clear hM9 hF9))
      have HSO9 := hide (isSo_any R S nS B.st a hsa w9 HM9.out.c5 HM9.out.so)
      have HIN9 := hide (isNot_any R S nS B.st b hsb w9 HM9.out.c5 HM9.out.so)
      have HNL : Hid (¬ (d2 = [] ∨ -(d2.getD 0 0) ∈ B.st)) := by
        unfold Hid
        rw [HGA.out]
        rintro (e | e)
        · rw [HD.out] at e; simp at e
        · exact HNA.out e
      have HW2 : Hid (B.wat2 d2 = upd (upd B.wt a (B.wt a ++ [(B.cl.length, b)])) b (upd B.wt a (B.wt a ++ [(B.cl.length, b)]) b ++ [(B.cl.length, a)])) := by unfold Hid; rw [HD.out, hr]; rfl
      have HGB := hide hgb
      clear x7 y7 a8 b8 hgb HWA HWB HM8 HF8 H7 HF7 HCE HSO hr
      by_cases hsa' : a ∈ B.st
      · have hd : decide (a ∈ B.st) = true := by simpa using hsa'
        rw [hd] at HSO9
        have HAD : Hid (B.add d2 = { B with cl := B.cl ++ [d2], wt := B.wat2 d2 }) := by
          unfold Hid Bd.add
          rw [if_neg HNL.out, if_neg (by rw [HGA.out]; exact fun e => e.1 hsa')]
        rw [HW2.out] at HAD
        clear hd hsa'
        go_wp2_with (first | (go_at_call 35; refine HSO9.out.mono ?_; rintro e w' ⟨rfl, hw'⟩; obtain rfl : w9 = w' := hw'.symm) | (go_at_call 36; refine HIN9.out.mono ?_; rintro e w' ⟨rfl, hw'⟩; obtain rfl : w9 = w' := hw'.symm))
        go_end0
        exact ⟨rfl, d2, X9, nS, nW + 1 + 1, _, vs, wk, _, _, _, HLX.out, HLE.out, by rw [HAD.out]; exact HM9.out, HF9.out, by omega, by omega⟩
      · have hd : decide (a ∈ B.st) = false := by simpa using hsa'
        rw [hd] at HSO9
        by_cases hnb : -b ∈ B.st
        · have hdb : decide (-b ∈ B.st) = true := by simpa using hnb
          rw [hdb] at HIN9
          have HAD : Hid (B.add d2 = ({ B with cl := B.cl ++ [d2], wt := B.wat2 d2 } : Bd).put a B.cl.length) := by
            unfold Hid Bd.add
            rw [if_neg HNL.out, if_pos (by rw [HGA.out, HGB.out]; exact ⟨hsa', .inr hnb⟩), HGA.out]
          rw [HW2.out] at HAD
          have HPU := hide (put_any w9 X9 R S W nS (nW + 1 + 1) _ vs wk _ _ _ _ HM9.out a (B.cl.length : Nat) hsa hsa' hspl hnS)
          clear hd hsa' hdb hnb
          go_wp2_with (first | (go_at_call 35; refine HSO9.out.mono ?_; rintro e w' ⟨rfl, hw'⟩; obtain rfl : w9 = w' := hw'.symm) | (go_at_call 36; refine HIN9.out.mono ?_; rintro e w' ⟨rfl, hw'⟩; obtain rfl : w9 = w' := hw'.symm) | (go_at_call 43; refine HPU.out.mono ?_; rintro e w10 ⟨rfl, X10, vs10, wk10, hM10, hF10⟩))
          have HM10 := hide hM10
          have HF10 := hide (HF9.out.trans hF10)
          clear hM10 hF10
          go_end0
          exact ⟨rfl, d2, X10, nS + 1, nW + 1 + 1, _, vs10, wk10, _, _, _, HLX.out, HLE.out, by rw [HAD.out]; exact HM10.out, HF10.out, by omega, by omega⟩
        · have hdb : decide (-b ∈ B.st) = false := by simpa using hnb
          rw [hdb] at HIN9
          have HAD : Hid (B.add d2 = { B with cl := B.cl ++ [d2], wt := B.wat2 d2 }) := by
            unfold Hid Bd.add
            rw [if_neg HNL.out, if_neg (by rw [HGA.out, HGB.out]; rintro ⟨_, e | e⟩; · exact hl2n e
                                           · exact hnb e)]
          rw [HW2.out] at HAD
          clear hd hsa' hdb hnb
          go_wp2_with (first | (go_at_call 35; refine HSO9.out.mono ?_; rintro e w' ⟨rfl, hw'⟩; obtain rfl : w9 = w' := hw'.symm) | (go_at_call 36; refine HIN9.out.mono ?_; rintro e w' ⟨rfl, hw'⟩; obtain rfl : w9 = w' := hw'.symm))
          go_end0
          exact ⟨rfl, d2, X9, nS, nW + 1 + 1, _, vs, wk, _, _, _, HLX.out, HLE.out, by rw [HAD.out]; exact HM9.out, HF9.out, by omega, by omega⟩
end Go.Proofs.YtkinmangilbeeaaGreatDoor.Pf
