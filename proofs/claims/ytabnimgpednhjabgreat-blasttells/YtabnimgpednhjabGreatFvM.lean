import Derived.Test.YtabnimgpednhjabGreatFs
import Derived.Test.YtabnimgpednhjabGreatBaM
import Derived.Deep.AppendLies
namespace Go.Proofs.YtabnimgpednhjabGreat.Gg
open Go.RowKit Go.Maps Go.WideMaps
set_option maxRecDepth 100000
set_option maxHeartbeats 4000000 in
theorem nodesOf_any (p : Option Addr) (cap : Nat) (ps : List (Int × Int)) (hl : ps.length ≤ 1000001) (q : Option Addr) (qc : Nat) (bs : List Bool) (hm : bs.length ≤ 1000) (hqn : q = none → qc = 0) (hst : stN bs.length ps ps.length = true) (w : World) (hP : PairsAt w p ps) (hB : BoolsAt w q bs) :
   Calls Tryz.prog 15 #[gval (bs.length : Int) p ps.length cap, .slice q bs.length qc] w fun e w' => ∃ pv cv, e = .returned (.slice pv (nodesV bs ps ps.length).length cv) ∧ BoolsAt w' pv (nodesV bs ps ps.length) ∧ Below w.heap.size w w' := by
 have hB0 : Below w.heap.size w (w.alloc (.cells #[.int .i64 bs.length, .slice p ps.length cap] 24)) := bal (Below.refl _ _) _
 have HB0 := hide hB0
 have HP := hide hP
 have HB := hide hB
 have HST := hide hst
 have HQN := hide hqn
 have HO0 : Hid (((w.alloc (.cells #[.int .i64 bs.length, .slice p ps.length cap] 24)).alloc (.cells #[.bool false] 4)).ownsRow (w.heap.size + 1) 4 1 (.slice (some ⟨w.heap.size + 1, 0, none⟩) 1 1) ([false] : List Bool).length (([false] : List Bool).map Value.bool)) := by
   have := World.ownsRow_lit (base := w.heap.size + 1) (e := 4) (size := 1) (w.alloc (.cells #[.int .i64 bs.length, .slice p ps.length cap] 24)) #[.bool false] 1 (by simp) (by unfold maxLen; omega) rfl
   unfold Hid
   simpa using this
 clear hP hB hst hqn hB0
 go_enter Tryz.func15, Tryz.ntmps15
 go_wp2_with (at_builtin; refine wpList_append_bools rfl _ _ rfl (w.heap.size + 1) _ [false] bs rfl HO0.out _ _ rfl (HB.out.later (bal HB0.out _)) HQN.out (by simp; omega) (by simp) ?_)
 intro v2 w2 hown2 hg2
 have hb2 : Below w.heap.size w w2 := (bal HB0.out _).grown hg2 (by simp; omega) (by intro k hk; simp [Value.ownBlock] at hk; omega)
 have hz2 : w.heap.size + 1 ≤ w2.heap.size := by have := hg2.size; simp at this; omega
 have q0 : w2.cell? ⟨w.heap.size, 1, none⟩ = some (.slice p ps.length cap) := hg2.cell (by simp [go_sem]) (by simp [Value.ownBlock])
 clear hg2
 go_wp2
 go_loopw [5, 6] (fun v i wr => ∃ k : Nat, k ≤ ps.length ∧ i = .int .i64 k ∧ wr.ownsRow (w.heap.size + 1) 4 1 v (nodesV bs ps k).length ((nodesV bs ps k).map Value.bool) ∧ Below w.heap.size w wr ∧ w.heap.size + 1 ≤ wr.heap.size ∧ wr.cell? ⟨w.heap.size, 1, none⟩ = some (.slice p ps.length cap)) (fun _ i _ => ps.length - (intOf i).toNat)
 case atStart => exact ⟨0, Nat.zero_le _, rfl, hown2, hb2, hz2, q0⟩
 case round =>
   clear hown2 hb2 q0 hz2
   obtain ⟨k, hk, rfl, hown, hbw, hszw, q0⟩ := hrel
   have hlen := nodesV_len bs ps k
   obtain ⟨pv, cv, rfl, hbv⟩ := owns_bools hown
   by_cases hlt : k < ps.length
   · obtain ⟨b1, o1, rfl, hc1⟩ := (HP.out.later hbw) (by omega)
     obtain ⟨c0, c1⟩ := hc1 k hlt
     have hki : (k : Int) < (ps.length : Int) := by omega
     have hsd : standB ps[k].1 ps[k].2 (1 + bs.length + k) = true := by
       have := stN_down (k := k + 1) HST.out (by omega)
       rw [stN_succ hlt, Bool.and_eq_true] at this
       exact this.2
     have hbd := stand_bd hsd
     have HS := hide (nodesV_succ (bs := bs) hlt)
     clear hc1 hsd
     generalize ps[k] = pr at *
     obtain ⟨x, y⟩ := pr
     simp only at *
     obtain ⟨x0, x1, y0, y1⟩ := hbd
     have HVB := hide hbv
     have HOW := hide hown
     have HLN := hide hlen
     generalize hnv : nodesV bs ps k = vs at *
     clear hnv hbv hown hlen
     have HX := hide (litOf_any vs pv cv x x0 (by rw [HLN.out]; omega) (by rw [HLN.out]; omega) wr HVB.out)
     have HY := hide (litOf_any vs pv cv y y0 (by rw [HLN.out]; omega) (by rw [HLN.out]; omega) wr HVB.out)
     have HBW := hide hbw
     have HEND : Hid (∀ z w3, (wr.alloc (.cells #[.bool z] 4)).grownBy w3 (Value.ownBlock (.slice pv vs.length cv)) → Below w.heap.size w w3 ∧ w.heap.size + 1 ≤ w3.heap.size ∧ w3.cell? ⟨w.heap.size, 1, none⟩ = some (.slice (some ⟨b1, o1, none⟩) ps.length cap)) := fun z w3 hg =>
       ⟨(bal HBW.out _).grown hg (by simp; omega) (fun j hj => by have := (HOW.out.lt j hj).1; omega), by have := hg.size; simp at this; omega, hg.cell (past1 q0 _) (fun e => by have := (HOW.out.lt _ e.symm).1; simp only at this; omega)⟩
     clear hbw
     cases hlx : litV vs x
     · rw [hlx] at HS HX
       clear hlx HY
       go_wp2_with fail
       refine HX.out.mono ?_
       rintro e w' ⟨rfl, rfl⟩
       go_wp2_with (at_builtin; refine wpList_append_bools rfl _ _ rfl (w.heap.size + 1) _ vs [false] rfl (HOW.out.alloc _) _ _ rfl (bools_one false) (fun h => by cases h) (by simp; rw [HLN.out]; omega) (by simp; omega) ?_)
       intro v' w3 hown3 hg3
       have HB3 := hide (HEND.out _ _ hg3)
       have hown4 : w3.ownsRow (w.heap.size + 1) 4 1 v' (nodesV bs ps (k + 1)).length ((nodesV bs ps (k + 1)).map Value.bool) := by rw [HS.out]; simpa using hown3
       clear hg3 hown3
       go_wp2
       go_roundw
       case rel => exact ⟨k + 1, by omega, by go_num, hown4, HB3.out.1, HB3.out.2.1, HB3.out.2.2⟩
       case measure => simp [intOf]; omega
     · rw [hlx] at HS HX
       clear hlx
       generalize litV vs y = ly at *
       go_wp2_with fail
       refine HX.out.mono ?_
       rintro e w' ⟨rfl, rfl⟩
       go_wp2_with fail
       refine HY.out.mono ?_
       rintro e w'' ⟨rfl, rfl⟩
       go_wp2_with (at_builtin; refine wpList_append_bools rfl _ _ rfl (w.heap.size + 1) _ vs [ly] rfl (HOW.out.alloc _) _ _ rfl (bools_one ly) (fun h => by cases h) (by simp; rw [HLN.out]; omega) (by simp; omega) ?_)
       intro v' w3 hown3 hg3
       have HB3 := hide (HEND.out _ _ hg3)
       have hown4 : w3.ownsRow (w.heap.size + 1) 4 1 v' (nodesV bs ps (k + 1)).length ((nodesV bs ps (k + 1)).map Value.bool) := by rw [HS.out]; simpa using hown3
       clear hg3 hown3
       go_wp2
       go_roundw
       case rel => exact ⟨k + 1, by omega, by go_num, hown4, HB3.out.1, HB3.out.2.1, HB3.out.2.2⟩
       case measure => simp [intOf]; omega
   · obtain rfl : k = ps.length := by omega
     go_wp2
     go_ret
     exact ⟨pv, cv, rfl, hbv, hbw⟩
end Go.Proofs.YtabnimgpednhjabGreat.Gg

namespace Go.Proofs.YtabnimgpednhjabGreat
open Go.RowKit Go.Maps
set_option maxRecDepth 100000
def remN (ns : List Nd) (S : List Int) (x : Int) : Nat → Int
 | 0 => x
 | k + 1 => remN ns S x k / two (wdOf ns (S.getD k 0))
def wordN (ns : List Nd) (S : List Int) (x : Int) (k : Nat) : Int := remN ns S x k % two (wdOf ns (S.getD k 0))
def wordsN (ns : List Nd) (S : List Int) (x : Int) (k : Nat) : List Int := (List.range k).map (wordN ns S x)
theorem wordsN_succ (ns : List Nd) (S : List Int) (x : Int) (k : Nat) : wordsN ns S x (k + 1) = wordsN ns S x k ++ [wordN ns S x k] := by simp [wordsN, List.range_succ]
theorem wordsN_len (ns : List Nd) (S : List Int) (x : Int) (k : Nat) : (wordsN ns S x k).length = k := by simp [wordsN]
theorem remN_bd (ns : List Nd) (S : List Int) {x : Int} (h0 : 0 ≤ x) (k : Nat) : 0 ≤ remN ns S x k ∧ remN ns S x k ≤ x := by
 induction k with
 | zero => exact ⟨h0, Int.le_refl _⟩
 | succ k ih =>
   have ht := two_pos (wdOf ns (S.getD k 0))
   refine ⟨Int.ediv_nonneg ih.1 (by omega), Int.le_trans (Int.ediv_le_self _ ih.1) ih.2⟩
theorem wordN_bd (ns : List Nd) (S : List Int) (x : Int) (k : Nat) : 0 ≤ wordN ns S x k ∧ wordN ns S x k < two (wdOf ns (S.getD k 0)) := by
 have ht := two_pos (wdOf ns (S.getD k 0))
 exact ⟨Int.emod_nonneg _ (by omega), Int.emod_lt_of_pos _ ht⟩
set_option maxHeartbeats 4000000 in
theorem wordsOf_any (a0 a1 a2 a3 a4 : Option Addr) (c0 c1 c2 c3 c4 l1 l2 l3 l4 : Nat) (ns : List Nd) (hl : ns.length ≤ 80) (hW : Wok ns) (kind x : Int) (hx : 0 ≤ x) (hx2 : x ≤ 1000000) (w : World) (hN : NodesAt w a0 ns) :
   Calls Tryz.prog 12 #[Mv.val ⟨a0, c0, a1, l1, c1, a2, l2, c2, a3, l3, c3, a4, l4, c4⟩ ns.length, .int .i64 kind, .int .i64 x] w fun e w' => ∃ p cap, e = .returned (.slice p (wordsN ns (sel (isK ns kind) ns.length) x (sel (isK ns kind) ns.length).length).length cap) ∧ IntsAt w' p (wordsN ns (sel (isK ns kind) ns.length) x (sel (isK ns kind) ns.length).length) ∧ Below w.heap.size w w' := by
 obtain ⟨i0, hi, hz0, hz1, hz2⟩ := info_parts info3
 have HBx := hide (Box.new w ⟨a0, c0, a1, l1, c1, a2, l2, c2, a3, l3, c3, a4, l4, c4⟩ ns.length)
 have HB0 : Hid (Below w.heap.size w (w.alloc (.cells (Mv.cells ⟨a0, c0, a1, l1, c1, a2, l2, c2, a3, l3, c3, a4, l4, c4⟩ ns.length) 35))) := bal (Below.refl _ _) _
 have HK := hide (fun (w' : World) (hb : Below w.heap.size w w') => nodesR_any ⟨a0, c0, a1, l1, c1, a2, l2, c2, a3, l3, c3, a4, l4, c4⟩ ns (by omega) kind w' (hN.later hb))
 have hsl := sel_len (isK ns kind) ns.length
 have HNN := hide hN
 have HSB : Hid (∀ k (h : k < (sel (isK ns kind) ns.length).length), 0 ≤ (sel (isK ns kind) ns.length)[k] ∧ (sel (isK ns kind) ns.length)[k] < ns.length) := fun k h => sel_bd h
 have HWD : Hid (∀ y : Int, 0 ≤ y → y < ns.length → 1 ≤ wdOf ns y ∧ wdOf ns y ≤ 8) := fun y h0 h1 => by
   have hk : y.toNat < ns.length := by omega
   unfold wdOf
   rw [List.getElem?_eq_getElem hk]
   exact hW _ hk
 clear hN hW
 generalize sel (isK ns kind) ns.length = S at *
 go_enter Tryz.func12, Tryz.ntmps12
 go_wp2_with fail
 have HBn : Hid (Below w.heap.size w ((w.alloc (.cells (Mv.cells ⟨a0, c0, a1, l1, c1, a2, l2, c2, a3, l3, c3, a4, l4, c4⟩ ns.length) 35)).alloc (.cells #[] 3))) := bal HB0.out _
 refine (HK.out _ HBn.out).mono ?_
 rintro e w1 ⟨ps, cs, rfl, hIs, hb1⟩
 have hsz1 := hb1.size
 have HO0 : Hid (w1.ownsRow (w.heap.size + 1) 3 1 (.slice (some ⟨w.heap.size + 1, 0, none⟩) 0 0) ([] : List Int).length (([] : List Int).map (Value.int .i64))) := by
   have h := World.ownsRow_lit (base := w.heap.size + 1) (e := 3) (size := 1) (w.alloc (.cells (Mv.cells ⟨a0, c0, a1, l1, c1, a2, l2, c2, a3, l3, c3, a4, l4, c4⟩ ns.length) 35)) #[] 0 (by simp) (by unfold maxLen; omega) rfl
   have h2 := Gg.owns_below h hb1
   unfold Hid
   simpa using h2
 have HF1 : Hid (∀ j, (Value.slice (some ⟨w.heap.size + 1, 0, none⟩) 0 0).ownBlock = some j → ∀ b off, ps = some ⟨b, off, none⟩ → 0 < S.length → j ≠ b) := fun j hj b off e h0 hjb => by
   obtain rfl : w.heap.size + 1 = j := by simpa [Value.ownBlock] using hj
   obtain ⟨b', o', e', hc⟩ := hIs h0
   rw [e] at e'
   cases e'
   have h1 := hc 0 h0
   rw [World.cell?_of_block (w := (w.alloc (.cells (Mv.cells ⟨a0, c0, a1, l1, c1, a2, l2, c2, a3, l3, c3, a4, l4, c4⟩ ns.length) 35)).alloc (.cells #[] 3)) (hb1.block _ (by simp; omega))] at h1
   subst hjb
   simp [go_sem] at h1
 have HX1 := hide (HBx.out.later ((bal (Below.refl _ _) (.cells #[] 3)).trans (hb1.mono (by simp))))
 have HB1 := hide (bthen HBn.out hb1)
 have HIS := hide hIs
 simp at hsz1
 clear hb1 hIs HBn HB0 HBx HK
 go_wp2_with fail
 go_loopw [2, 7, 9] (fun n v i wr => ∃ k : Nat, k ≤ S.length ∧ i = .int .i64 k ∧ n = .int .i64 (remN ns S x k) ∧ Hid (wr.ownsRow (w.heap.size + 1) 3 1 v (wordsN ns S x k).length ((wordsN ns S x k).map (Value.int .i64))) ∧ Hid (Below w.heap.size w wr ∧ Box wr w.heap.size ⟨a0, c0, a1, l1, c1, a2, l2, c2, a3, l3, c3, a4, l4, c4⟩ ns.length ∧ IntsAt wr ps S ∧ w.heap.size + 1 ≤ wr.heap.size ∧ ∀ j, v.ownBlock = some j → ∀ b off, ps = some ⟨b, off, none⟩ → 0 < S.length → j ≠ b)) (fun _ _ i _ => S.length - (intOf i).toNat)
 case atStart => exact ⟨0, Nat.zero_le _, rfl, rfl, HO0, HB1.out, HX1.out, HIS.out, by omega, HF1.out⟩
 case round =>
   clear HO0 HB1 HX1 HIS HF1
   obtain ⟨k, hk, rfl, rfl, HOW, HR⟩ := hrel
   by_cases hlt : k < S.length
   · obtain ⟨hbw, hbx, hsw, hszw, hne⟩ := HR.out
     obtain ⟨sb, so, rfl, hsc⟩ := hsw (by omega)
     have s0 := hsc k hlt
     have sbl : sb < wr.heap.size := World.block_lt_of_cell? _ _ s0
     have sne := fun j hj => hne j hj sb so rfl (by omega)
     obtain ⟨z0, z1⟩ := HSB.out k hlt
     obtain ⟨wd0, wd1⟩ := HWD.out S[k] z0 z1
     obtain ⟨nb, no, rfl, hnc⟩ := (HNN.out.later hbw) (by omega)
     have n1 := (kd_wd hnc S[k] z0 z1).2
     have j0 : wr.cell? ⟨w.heap.size, 0, none⟩ = some (.slice (some ⟨nb, no, none⟩) ns.length c0) := hbx.1
     have hkl : (k : Int) < (S.length : Int) := by omega
     have HS := hide (wordsN_succ ns S x k)
     have HE : Hid (wordN ns S x k = remN ns S x k % two (wdOf ns S[k]) ∧ remN ns S x (k + 1) = remN ns S x k / two (wdOf ns S[k])) := by unfold Hid wordN; rw [remN, Gg.getD_at hlt]; exact ⟨rfl, rfl⟩
     have hrb := remN_bd ns S hx k
     have htp := two_pos (wdOf ns S[k])
     have htl : two (wdOf ns S[k]) ≤ 256 := by
       have h := two_le (wdOf ns S[k]).toNat 8 (by omega)
       rw [show (((wdOf ns S[k]).toNat : Nat) : Int) = wdOf ns S[k] by omega] at h
       exact h
     have HT := hide (fun w' => two_any (wdOf ns S[k]) (by omega) (by omega) w')
     have HLN := hide (wordsN_len ns S x k)
     have HKEEP : Hid (∀ w3 g, (wr.alloc (.cells #[.int .i64 (remN ns S x k % two (wdOf ns S[k]))] 3)).drew.grownBy w3 u7.ownBlock → (u7.ownBlock = some g ∨ g = wr.heap.size + 1) → Below w.heap.size w w3 ∧ Box w3 w.heap.size ⟨some ⟨nb, no, none⟩, c0, a1, l1, c1, a2, l2, c2, a3, l3, c3, a4, l4, c4⟩ ns.length ∧ IntsAt w3 (some ⟨sb, so, none⟩) S ∧ w.heap.size + 1 ≤ w3.heap.size ∧ ∀ (j : Nat) (cap : Nat), (Value.slice (some ⟨g, 0, none⟩) ((wordsN ns S x k).length + 1) cap).ownBlock = some j → ∀ b off, (some ⟨sb, so, none⟩ : Option Addr) = some ⟨b, off, none⟩ → 0 < S.length → j ≠ b) := fun w3 g hg hor => by
       have hrow : ∀ j, u7.ownBlock = some j → w.heap.size + 1 ≤ j := fun j hj => (HOW.out.lt j hj).1
       have far : ∀ {q : Addr} {y : Value}, wr.cell? q = some y → some q.block ≠ u7.ownBlock → w3.cell? q = some y := fun {q y} h1 h2 => hg.cell (past1 h1 _) h2
       have nw : ∀ i, some (⟨w.heap.size, i, none⟩ : Addr).block ≠ u7.ownBlock := fun i e => by have := hrow _ e.symm; simp only at this; omega
       refine ⟨(bal hbw _).drew.grown hg (by simp; omega) (fun j hj => by have := hrow j hj; omega), ⟨far hbx.1 (nw 0), far hbx.2.1 (nw 1), far hbx.2.2.1 (nw 2), far hbx.2.2.2.1 (nw 3), far hbx.2.2.2.2 (nw 4)⟩, fun _ => ⟨sb, so, rfl, fun i hi => far (hsc i hi) (fun e => sne _ e.symm rfl)⟩, by have := hg.size; simp at this; omega, fun j cap hj b off e h0 hjb => ?_⟩
       obtain rfl : g = j := by simpa [Value.ownBlock] using hj
       cases e
       rcases hor with h | h
       · exact sne _ h hjb
       · omega
     have HOWn := hide (And.intro hrb (And.intro htp htl))
     clear hsc hnc hbx hsw hne sne HR
     generalize wdOf ns S[k] = wd at *
     generalize S[k] = sk at *
     generalize hrn : remN ns S x k = r at *
     generalize two wd = t at *
     generalize hWk : wordsN ns S x k = Wk at *
     have hq : ¬ t = 0 := by omega
     go_wp2_with fail
     go_region_held3 (fun w' => w' = wr.drew)
       (first | rfl | go_keep)
       ((go_at_call 14; refine (HT.out _).mono ?_; rintro e w2 ⟨rfl, rfl⟩))
     go_wp2_with (at_builtin; refine wpList_append_lies _ rfl _ _ 25 rfl (w.heap.size + 1) 3 i0 (.int .i64 0) 1 8 Tryz.underlying25 hi hz0 hz1 hz2 rfl (by decide) u7 Wk.length _ rfl (HOW.out.alloc _) ⟨wr.heap.size, 0, none⟩ 1 1 [.int .i64 (r % t)] rfl rfl ?d0 ?d1 (by omega) ?d2 ?d3 ?d4 _ rfl ?_)
     case d1 => rfl
     case d2 => unfold maxLen; rw [HLN.out]; omega
     case d3 => rw [HLN.out]; omega
     case d4 => first | omega | (simp; omega)
     intro g cap2 w3 hown3 hg3 hor hlt3
     have HK3 := hide (HKEEP.out w3 g hg3 hor)
     have HR3 : Hid (w3.ownsRow (w.heap.size + 1) 3 1 (.slice (some ⟨g, 0, none⟩) (Wk.length + 1) cap2) (wordsN ns S x (k + 1)).length ((wordsN ns S x (k + 1)).map (Value.int .i64))) := by
       rw [HS.out, HE.out.1]
       unfold Hid
       simpa using hown3
     have HE2 := hide HE.out.2
     clear hown3 hg3 hor hlt3 HOW HKEEP HE
     go_wp2_with fail
     go_roundw
     case rel => exact ⟨k + 1, by omega, by go_num, by rw [HE2.out], HR3, HK3.out.1, HK3.out.2.1, HK3.out.2.2.1, HK3.out.2.2.2.1, fun j hj => HK3.out.2.2.2.2 j cap2 hj⟩
     case measure => simp [intOf]; omega
   · obtain rfl : k = S.length := by omega
     obtain ⟨pv, cv, rfl, hiv⟩ := owns_ints HOW.out
     have HIV := hide hiv
     have HBW := hide HR.out.1
     clear hiv HOW HR
     go_wp2_with fail
     go_ret
     exact ⟨pv, cv, rfl, fun h0 => HIV.out h0, HBW.out⟩
end Go.Proofs.YtabnimgpednhjabGreat

namespace Go.Proofs.YtabnimgpednhjabGreat
open Go.RowKit Go.Maps
set_option maxRecDepth 100000
def bitsB (x : Int) (n : Nat) : List Bool := (List.range n).map (fun k : Nat => x / two k % 2 == 1)
def bitsN (ns : List Nd) (S l : List Int) : Nat → List Bool
 | 0 => []
 | k + 1 => bitsN ns S l k ++ bitsB (l.getD k 0) (wdOf ns (S.getD k 0)).toNat
theorem bitsB_succ (x : Int) (n : Nat) : bitsB x (n + 1) = bitsB x n ++ [x / two n % 2 == 1] := by simp [bitsB, List.range_succ]
theorem bitsB_len (x : Int) (n : Nat) : (bitsB x n).length = n := by simp [bitsB]
theorem bitsN_len_le {ns : List Nd} {S : List Int} (hS : ∀ k, k < S.length → wdOf ns (S.getD k 0) ≤ 8) (l : List Int) : ∀ k, k ≤ S.length → (bitsN ns S l k).length ≤ 8 * k := by
 intro k
 induction k with
 | zero => intro _; exact Nat.le_refl _
 | succ k ih =>
   intro hk
   have h1 := ih (by omega)
   have h2 := hS k (by omega)
   rw [bitsN, List.length_append, bitsB_len]
   omega
set_option maxHeartbeats 8000000 in
theorem bitsOfR_any (a0 a1 a2 a3 a4 : Option Addr) (c0 c1 c2 c3 c4 l1 l2 l3 l4 : Nat) (ns : List Nd) (hl : ns.length ≤ 80) (hW : Wok ns) (kind : Int) (l : List Int) (pl : Option Addr) (cl : Nat) (hll : l.length = (sel (isK ns kind) ns.length).length) (hlb : ∀ x ∈ l, 0 ≤ x ∧ x < 256) (w : World) (hN : NodesAt w a0 ns) (hL : IntsAt w pl l) :
   Calls Tryz.prog 16 #[Mv.val ⟨a0, c0, a1, l1, c1, a2, l2, c2, a3, l3, c3, a4, l4, c4⟩ ns.length, .int .i64 kind, .slice pl l.length cl] w fun e w' => ∃ v, e = .returned v ∧ w'.ownsRow w.heap.size 4 1 v (bitsN ns (sel (isK ns kind) ns.length) l (sel (isK ns kind) ns.length).length).length ((bitsN ns (sel (isK ns kind) ns.length) l (sel (isK ns kind) ns.length).length).map Value.bool) ∧ Below w.heap.size w w' := by
 have HBx := hide (Box.new w ⟨a0, c0, a1, l1, c1, a2, l2, c2, a3, l3, c3, a4, l4, c4⟩ ns.length)
 have HB0 : Hid (Below w.heap.size w (w.alloc (.cells (Mv.cells ⟨a0, c0, a1, l1, c1, a2, l2, c2, a3, l3, c3, a4, l4, c4⟩ ns.length) 35))) := bal (Below.refl _ _) _
 have HK := hide (fun (w' : World) (hb : Below w.heap.size w w') => nodesR_any ⟨a0, c0, a1, l1, c1, a2, l2, c2, a3, l3, c3, a4, l4, c4⟩ ns (by omega) kind w' (hN.later hb))
 have hsl := sel_len (isK ns kind) ns.length
 have HNN := hide hN
 have HLL := hide hL
 have HLB := hide hlb
 have HLN := hide hll
 have HSB : Hid (∀ k (h : k < (sel (isK ns kind) ns.length).length), 0 ≤ (sel (isK ns kind) ns.length)[k] ∧ (sel (isK ns kind) ns.length)[k] < ns.length) := fun k h => sel_bd h
 have HWD : Hid (∀ y : Int, 0 ≤ y → y < ns.length → 1 ≤ wdOf ns y ∧ wdOf ns y ≤ 8) := fun y h0 h1 => by
   have hk : y.toNat < ns.length := by omega
   unfold wdOf
   rw [List.getElem?_eq_getElem hk]
   exact hW _ hk
 clear hN hW hL hlb hll
 generalize sel (isK ns kind) ns.length = S at *
 have HLE := hide (bitsN_len_le (ns := ns) (S := S) (fun k hk => by rw [Gg.getD_at hk]; exact (HWD.out _ (HSB.out k hk).1 (HSB.out k hk).2).2) l)
 go_enter Tryz.func16, Tryz.ntmps16
 go_wp2_with fail
 refine (HK.out _ HB0.out).mono ?_
 rintro e w1 ⟨ps, cs, rfl, hIs, hb1⟩
 have hsz1 := hb1.size
 have HX1 := hide (HBx.out.later hb1)
 have HB1 := hide (bthen HB0.out hb1)
 have HIS := hide hIs
 have HL1 := hide (HLL.out.later HB1.out)
 have HN1 := hide (HNN.out.later HB1.out)
 simp at hsz1
 clear hb1 hIs HB0 HBx HK HLL HNN
 go_wp2_with fail
 go_loopw [7, 9] (fun v i wr => ∃ k : Nat, k ≤ S.length ∧ i = .int .i64 k ∧ Hid (wr.ownsRow w1.heap.size 4 1 v (bitsN ns S l k).length ((bitsN ns S l k).map Value.bool)) ∧ Hid (Below w1.heap.size w1 wr)) (fun _ i _ => S.length - (intOf i).toNat)
 case atStart => exact ⟨0, Nat.zero_le _, rfl, World.ownsRow_nil _ _ _ _, Below.refl _ _⟩
 case round =>
   obtain ⟨k, hk, rfl, HOW, HR⟩ := hrel
   by_cases hlt : k < S.length
   · have hkl : (k : Int) < (S.length : Int) := by omega
     have hltl : k < l.length := by rw [HLN.out]; exact hlt
     obtain ⟨z0, z1⟩ := HSB.out k hlt
     obtain ⟨wd0, wd1⟩ := HWD.out S[k] z0 z1
     obtain ⟨x0, x1⟩ := HLB.out _ (List.getElem_mem hltl)
     have HE : Hid (bitsN ns S l (k + 1) = bitsN ns S l k ++ bitsB l[k] (wdOf ns S[k]).toNat) := by rw [Hid, bitsN, Gg.getD_at hlt, Gg.getD_at hltl]
     have HLk := hide (HLE.out k hk)
     have HC : Hid (∃ nb no sb so lb lo, a0 = some ⟨nb, no, none⟩ ∧ ps = some ⟨sb, so, none⟩ ∧ pl = some ⟨lb, lo, none⟩ ∧ ∀ wr, Below w1.heap.size w1 wr → wr.cell? ⟨sb, so + k, none⟩ = some (.int .i64 S[k]) ∧ wr.cell? ⟨lb, lo + k, none⟩ = some (.int .i64 l[k]) ∧ wr.cell? ⟨nb, no + S[k].toNat * 6 + 1, none⟩ = some (.int .i64 (wdOf ns S[k])) ∧ wr.cell? ⟨w.heap.size, 0, none⟩ = some (.slice a0 ns.length c0)) := by
       obtain ⟨nb, no, e1, hnc⟩ := HN1.out (by omega)
       obtain ⟨sb, so, e2, hsc⟩ := HIS.out (by omega)
       obtain ⟨lb, lo, e3, hlc⟩ := HL1.out (by omega)
       exact ⟨nb, no, sb, so, lb, lo, e1, e2, e3, fun wr hb => ⟨cell_later hb (hsc k hlt), cell_later hb (hlc k hltl), cell_later hb (kd_wd hnc S[k] z0 z1).2, cell_later hb HX1.out.1⟩⟩
     obtain ⟨nb, no, sb, so, lb, lo, rfl, rfl, rfl, hcl⟩ := HC.out
     have HCL := hide hcl
     clear hcl HC HN1 HIS HL1 HX1
     generalize hwd : wdOf ns S[k] = wd at *
     obtain ⟨wn, rfl⟩ : ∃ wn : Nat, wd = (wn : Int) := ⟨wd.toNat, by omega⟩
     simp only [Int.toNat_natCast] at *
     clear hwd
     generalize S[k] = sk at *
     generalize l[k] = x at *
     generalize bitsN ns S l k = Bk at *
     have hkll : (k : Int) < (l.length : Int) := by omega
     go_wp2_with fail
     go_loopw [7, 10] (fun v i wr => ∃ j : Nat, j ≤ wn ∧ i = .int .i64 j ∧ Hid (wr.ownsRow w1.heap.size 4 1 v (Bk ++ bitsB x j).length ((Bk ++ bitsB x j).map Value.bool)) ∧ Hid (Below w1.heap.size w1 wr)) (fun _ i _ => wn - (intOf i).toNat)
     case atStart => exact ⟨0, Nat.zero_le _, rfl, by rw [show bitsB x 0 = [] from rfl, List.append_nil]; exact HOW, HR⟩
     case round =>
       clear HOW HR
       obtain ⟨j, hj, rfl, HOW, HR⟩ := hrel
       obtain ⟨s0, t0, n1, j0⟩ := HCL.out wr HR.out
       have hszw := HR.out.size
       by_cases hjl : j < wn
       · have HS := hide (bitsB_succ x j)
         have hbl := bitsB_len x j
         have HBT := hide (fun w' => bit_any x (j : Int) x0 x1 (by omega) (by omega) w')
         have hji : (j : Int) < (wn : Int) := by omega
         have HLk2 := HLk
         generalize bitsB x j = Bj at *
         generalize x / two (j : Int) % 2 = bt at *
         go_wp2_with fail
         go_region_held3 (fun w' => w'.cell? ⟨sb, so + k, none⟩ = some (.int .i64 sk) ∧ w'.cell? ⟨lb, lo + k, none⟩ = some (.int .i64 x) ∧ w'.cell? ⟨nb, no + sk.toNat * 6 + 1, none⟩ = some (.int .i64 wn) ∧ w'.cell? ⟨w.heap.size, 0, none⟩ = some (.slice (some ⟨nb, no, none⟩) ns.length c0))
           (first | exact ⟨s0, t0, n1, j0⟩ | go_keep)
           (fail)
         go_wp2_with fail
         refine (HBT.out _).mono ?_
         rintro e w2 ⟨rfl, rfl⟩
         have HRD : Hid (Below w1.heap.size w1 wr.drew) := HR.out.drew
         have HOD : Hid (wr.drew.ownsRow w1.heap.size 4 1 u7 (Bk ++ Bj).length ((Bk ++ Bj).map Value.bool)) := HOW.out
         have HL8 : Hid ((Bk ++ Bj).length ≤ 8 * k + 8) := by rw [Hid, List.length_append]; have := HLk.out; omega
         have HSQ : Hid (Bk ++ bitsB x (j + 1) = (Bk ++ Bj) ++ [bt == 1]) := by rw [Hid, HS.out, List.append_assoc]
         clear HOW HS hbl
         generalize Bk ++ Bj = BB at *
         have hl8 := HL8.out
         go_wp2_with (at_builtin; refine Gg.wpList_append_bools rfl _ _ rfl w1.heap.size _ BB [bt == 1] rfl (HOD.out.alloc _) _ _ rfl (Gg.bools_one (bt == 1)) (fun h => by cases h) (by simp; omega) (by simp; omega) ?_)
         intro v' w3 hown3 hg3
         have HR3 := hide ((bal HRD.out _).grown hg3 (by simp; omega) (fun j hj => (HOD.out.lt j hj).1))
         have HO3 : Hid (w3.ownsRow w1.heap.size 4 1 v' (Bk ++ bitsB x (j + 1)).length ((Bk ++ bitsB x (j + 1)).map Value.bool)) := by rw [HSQ.out, List.map_append, List.length_append]; exact hown3
         clear hown3 hg3 HOD HRD
         go_wp2_with fail
         go_roundw
         case rel => exact ⟨j + 1, by omega, by go_num, HO3, HR3⟩
         case measure => simp [intOf]; omega
       · obtain rfl : j = wn := by omega
         have hji : ¬ (j : Int) < (j : Int) := by omega
         have HO3 : Hid (wr.ownsRow w1.heap.size 4 1 u7 (bitsN ns S l (k + 1)).length ((bitsN ns S l (k + 1)).map Value.bool)) := by rw [HE.out]; exact HOW
         clear HOW
         go_wp2_with fail
         go_region_held3 (fun w' => w'.cell? ⟨sb, so + k, none⟩ = some (.int .i64 sk) ∧ w'.cell? ⟨lb, lo + k, none⟩ = some (.int .i64 x) ∧ w'.cell? ⟨nb, no + sk.toNat * 6 + 1, none⟩ = some (.int .i64 j) ∧ w'.cell? ⟨w.heap.size, 0, none⟩ = some (.slice (some ⟨nb, no, none⟩) ns.length c0))
           (first | exact ⟨s0, t0, n1, j0⟩ | go_keep)
           (fail)
         have HRD : Hid (Below w1.heap.size w1 wr.drew) := HR.out.drew
         have HOD : Hid (wr.drew.ownsRow w1.heap.size 4 1 u7 (bitsN ns S l (k + 1)).length ((bitsN ns S l (k + 1)).map Value.bool)) := HO3.out
         go_wp2_with fail
         go_roundw
         case rel => exact ⟨k + 1, by omega, by go_num, HOD, HRD⟩
         case measure => simp [intOf]; omega
   · obtain rfl : k = S.length := by omega
     have HBW := hide (bthen HB1.out HR.out)
     have HOE : Hid (wr.ownsRow w.heap.size 4 1 u7 (bitsN ns S l S.length).length ((bitsN ns S l S.length).map Value.bool)) := Gg.owns_base HOW.out (by omega)
     clear HOW HR
     go_wp2_with fail
     go_ret
     exact ⟨_, rfl, HOE.out, HBW.out⟩
end Go.Proofs.YtabnimgpednhjabGreat
