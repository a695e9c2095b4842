import Derived.Test.YtabnimgpednhjabGreatFgM
import Derived.Deep.AppendLies
namespace Go.Proofs.YtabnimgpednhjabGreat.Gg
open Go.RowKit Go.Maps Go.WideMaps
set_option maxRecDepth 100000
theorem wordK_any {X : Nat → Prop} {E : List Bool → List Int → Prop} {ns : List Nd} {a0 : Option Addr} {c0 : Nat} {w : World} {base Pb M B Mb : Nat} {v : Value} {n : Nat} {ps : Gr} {D : DataW Unit} (h : Kz X E ns a0 c0 w base Pb M B Mb v n ps D) (hs : ps.length ≤ 1000 * kn D ns.length) (hl80 : ns.length ≤ 80) {k : Nat} (hk : k < ns.length) (hh : Maps.has D (.int .i64 (k : Int)) = true) :
   Calls Tryz.prog 60 #[.pointer (some ⟨Pb, 0, none⟩), .int .i64 k] w (WordP X E ns a0 c0 w base Pb M B Mb v n ps D k) := by
 rcases h.known k hk with h1 | ⟨_, b, o, c, l, h2, h3, h4, h5⟩
 · rw [hh] at h1; exact absurd h1.1 (by decide)
 have c2 := h.c2
 have hlook := look70_yes h.own (x := (k : Int)) (by omega) (by omega) hh h2
 have HF : Hid (WordP X E ns a0 c0 w base Pb M B Mb v n ps D k (.returned (.slice (some ⟨b, o, none⟩) l.length c)) w) := ⟨v, ps, D, b, o, c, l, rfl, h, hs, h3, h4, h5, ⟨0, Ext.refl h.bs.good⟩, Gom.refl, fun _ _ => rfl⟩
 clear h h2 h3 h4 h5 hh hs
 unfold WordP at *
 go_enter Tryz.func60, Tryz.ntmps60
 go_wp2
 go_ret
 obtain ⟨v', qs, D', b', o', cap, l', e, r⟩ := HF.out
 exact ⟨v', qs, D', b', o', cap, l', e, r⟩
theorem ops_get {x : Nd} {j : Nat} (h : j < (opsL x).length) : (opsL x)[j] = if j = 0 then x.a else if j = 1 then x.b else x.c := by
 have hl := opsL_len x
 have h4 := takes_four x.kind
 have hj : j = 0 ∨ j = 1 ∨ j = 2 := by omega
 rcases hj with rfl | rfl | rfl
 · exact (List.getElem_take (xs := [x.a, x.b, x.c]) (h := h)).trans rfl
 · exact (List.getElem_take (xs := [x.a, x.b, x.c]) (h := h)).trans rfl
 · exact (List.getElem_take (xs := [x.a, x.b, x.c]) (h := h)).trans rfl
set_option maxHeartbeats 8000000 in
theorem word_any {X : Nat → Prop} {E : List Bool → List Int → Prop} {ns : List Nd} {a0 : Option Addr} {c0 : Nat} {base Pb M B Mb n : Nat} (he : EnvOk E ns n) (hl80 : ns.length ≤ 80) (hn : firstN (nodeAtE ns) ns.length = 0) :
   ∀ k, k < ns.length → ∀ (w : World) (v : Value) (ps : Gr) (D : DataW Unit), Kz X E ns a0 c0 w base Pb M B Mb v n ps D → ps.length ≤ 1000 * kn D ns.length → (∀ g, X g → g < w.heap.size) → Calls Tryz.prog 60 #[.pointer (some ⟨Pb, 0, none⟩), .int .i64 k] w (WordP X E ns a0 c0 w base Pb M B Mb v n ps D k) := by
 intro k
 induction k using Nat.strongRecOn with
 | ind k ih =>
 intro hk w v ps D h hs hX
 by_cases hh : Maps.has D (.int .i64 (k : Int)) = true
 · exact wordK_any h hs hl80 hk hh
 have hno : Maps.has D (.int .i64 (k : Int)) = false := by simpa using hh
 have hat : D.atKey (.int .i64 (k : Int)) .nil = .nil := by
   rcases h.known k hk with h1 | ⟨h1, _⟩
   · exact h1.2
   · rw [hno] at h1; cases h1
 have hnode := firstN_zero.1 hn k hk
 rw [nodeAtE_at hk] at hnode
 obtain ⟨_, _, hops, _, _⟩ := node_zero hnode
 have k2 : ns[k].kind ≠ 2 := fun e => hh (h.leaves k hk (Or.inl e))
 have k3 : ns[k].kind ≠ 3 := fun e => hh (h.leaves k hk (Or.inr e))
 have HNT := hide (fun (qs : Gr) => @node_tells E ns n he hn k hk k2 k3 qs)
 have c1 := h.c1
 have c2 := h.c2
 have hlook := look70_no h.own (x := (k : Int)) (by omega) (by omega) hno hat
 obtain ⟨nb, no, rfl, hnc⟩ := h.nodes (by omega)
 obtain ⟨n0, n1, n2, n3, n4, n5⟩ := hnc k hk
 have hkl : (k : Int) < (ns.length : Int) := by omega
 have HMB := hide h.own.lt
 have HO := hide (fun w => operandsF_any ns[k] w)
 have HOps := hide hops
 have HLO : Hid ((opsL ns[k]).length ≤ 3) := by rw [opsL_len]; have := takes_four ns[k].kind; simp only [Hid]; omega
 have HOL := hide (opsL_len ns[k])
 have HTF := hide (takes_four ns[k].kind)
 have HOG := hide (fun (j : Nat) (h : j < (opsL ns[k]).length) => ops_get h)
 have HKZ := hide h
 have HS := hide hs
 have HXX := hide hX
 have HNO := hide hno
 have HIH := hide ih
 clear h hs hX hh hno hat hnode hops hnc ih k2 k3
 generalize hx : ns[k] = x at *
 have HX := hide hx
 clear hx
 obtain ⟨kd, wd, xa, xb, xc, xn⟩ := x
 simp only at *
 have hB0 : Below w.heap.size w ((w.alloc (.cells #[.int .i64 kd, .int .i64 wd, .int .i64 xa, .int .i64 xb, .int .i64 xc, .int .i64 xn] 53)).alloc (.cells #[.slice none 0 0, .slice none 0 0, .slice none 0 0] 116)) := bal (bal (Below.refl _ _) _) _
 unfold WordP
 go_enter Tryz.func60, Tryz.ntmps60
 go_wp2_with fail
 refine (HO.out _).mono ?_
 rintro e w1 ⟨g, hg, rfl, hI1, hb1⟩
 have HB1 := hide (bthen hB0 hb1)
 have hgg : w.heap.size + 1 < g := by simp at hg; omega
 have HW1 : Hid (Wz w w1 M B Mb v ⟨kd, wd, xa, xb, xc, xn⟩ g (fun _ => (none, 0, []))) := by
   refine ⟨cell_later hb1 (by simp [go_sem]), cell_later hb1 (by simp [go_sem]), cell_later hb1 (by simp [go_sem]), cell_later hb1 (by simp [go_sem]), cell_later hb1 (by simp [go_sem]), cell_later hb1 (by simp [go_sem]), fun i hi => ?_, ?_, fun h0 => hI1 h0, HKZ.out.bs.bm.new (Nat.le_refl _), HKZ.out.bs.bm.new (by omega), fun h0 => ⟨HKZ.out.bs.bm.new (by omega), ?_⟩, hgg, HMB.out⟩
   · match i, hi with
     | 0, _ => exact ⟨cell_later hb1 (by simp [go_sem]), by rw [hb1.frozen (by simp)]; simp [go_sem]⟩
     | 1, _ => exact ⟨cell_later hb1 (by simp [go_sem]), by rw [hb1.frozen (by simp)]; simp [go_sem]⟩
     | 2, _ => exact ⟨cell_later hb1 (by simp [go_sem]), by rw [hb1.frozen (by simp)]; simp [go_sem]⟩
   · have := (sla_new (w.alloc (.cells #[.int .i64 kd, .int .i64 wd, .int .i64 xa, .int .i64 xb, .int .i64 xc, .int .i64 xn] 53)) 116).kept (hb1.block _ (by simp))
     simpa using this
   · obtain ⟨b, o, e, hc⟩ := hI1 h0
     cases e
     exact World.block_lt_of_cell? _ _ (hc 0 h0)
 clear hB0 hb1 hI1 hg c1 c2 n0 n1 n2 n3 n4 n5 hlook HO
 go_wp2_with fail
 go_loopw [33] (fun i wr => ∃ (j : Nat) (v' : Value) (qs : Gr) (D' : DataW Unit) (f : Ow), j ≤ (opsL ⟨kd, wd, xa, xb, xc, xn⟩).length ∧ i = .int .i64 j ∧ Hid (Kz X E ns (some ⟨nb, no, none⟩) c0 wr base Pb M B Mb v' n qs D') ∧ Hid (qs.length ≤ 1000 * kn D' ns.length ∧ ∃ e, Ext n e ps qs) ∧ Hid (Gom base M B Mb w v wr v') ∧ Hid (Wz w wr M B Mb v' ⟨kd, wd, xa, xb, xc, xn⟩ g f) ∧ Hid ((∀ i, i < 3 → Wm wr M B v' n qs (f i).1 (f i).2.1 (f i).2.2 ∧ OffX (f i).1 X) ∧ (∀ i, i < j → ∀ h, Tells E ns qs ((opsL ⟨kd, wd, xa, xb, xc, xn⟩)[i]'h).toNat (f i).2.2) ∧ (∀ i, j ≤ i → f i = (none, 0, [])) ∧ ∀ q : Nat, k ≤ q → Maps.has D' (.int .i64 (q : Int)) = Maps.has D (.int .i64 (q : Int)))) (fun i _ => (opsL ⟨kd, wd, xa, xb, xc, xn⟩).length - (intOf i).toNat)
 case atStart => exact ⟨0, v, ps, D, _, Nat.zero_le _, rfl, HKZ.out.later he HB1.out, ⟨HS.out, 0, Ext.refl HKZ.out.bs.good⟩, (gon_quiet (HB1.out.mono HKZ.out.bs.hb) HB1.out).gom, HW1, fun _ _ => ⟨wm_nil, offX_nil⟩, fun i hi => by omega, fun _ _ => rfl, fun _ _ => rfl⟩
 case round =>
   clear HW1 HB1
   obtain ⟨j, v', qs, D', f, hj, rfl, HK, HQ, HG, HW, HF⟩ := hrel
   by_cases hlt : j < (opsL ⟨kd, wd, xa, xb, xc, xn⟩).length
   · have hj3 : j < 3 := by have := HLO.out; omega
     obtain ⟨b, off, hp, hcl⟩ := HW.out.ops (by omega)
     cases hp
     have d0 := hcl j hlt
     rw [Nat.zero_add] at d0
     obtain ⟨y0, y1⟩ := HOps.out _ (List.getElem_mem hlt)
     have hjl : (j : Int) < ((opsL ⟨kd, wd, xa, xb, xc, xn⟩).length : Int) := by omega
     have HIW := hide (HIH.out ((opsL ⟨kd, wd, xa, xb, xc, xn⟩)[j]).toNat (by omega) (by omega) wr v' qs D' HK.out HQ.out.1 (fun g hg => Nat.lt_of_lt_of_le (HXX.out g hg) HG.out.bel.size))
     rw [show ((((opsL ⟨kd, wd, xa, xb, xc, xn⟩)[j]).toNat : Nat) : Int) = (opsL ⟨kd, wd, xa, xb, xc, xn⟩)[j] by omega] at HIW
     unfold WordP at HIW
     have HY := hide (And.intro y0 y1)
     have HOn : Hid (∀ (q : Gr) (l : List Int), Tells E ns q ((opsL ⟨kd, wd, xa, xb, xc, xn⟩)[j]).toNat l → ∀ h, Tells E ns q ((opsL ⟨kd, wd, xa, xb, xc, xn⟩)[j]'h).toNat l) := fun _ _ h _ => h
     clear hcl y0 y1
     generalize (opsL ⟨kd, wd, xa, xb, xc, xn⟩)[j] = on at *
     go_wp2_with fail
     refine HIW.out.mono ?_
     rintro e w2 ⟨v2, q2, D2, b, o, cap, l, rfl, hk2, hq2, hw2, hb2, ht2, hx2, hg2, hd2⟩
     have hW2 := HW.out.gom hg2
     obtain ⟨r1, r2⟩ := hW2.r j hj3
     obtain ⟨e1, x1⟩ := HQ.out.2
     obtain ⟨e2, x2⟩ := hx2
     have hbw := HKZ.out.bs.hb
     obtain ⟨F1, F2, F3, F4⟩ := HF.out
     have HK' := hide (hk2.set hn hW2.sl (by omega) hW2.a1 r1 (.slice (some ⟨b, o, none⟩) l.length cap))
     have HQ' := hide (And.intro hq2 (show ∃ e, Ext n e ps q2 from ⟨e1 + e2, x1.trans x2⟩))
     have HG' := hide (gom_setNew (HG.out.trans hg2) hbw (q := ⟨w.heap.size + 1, j, none⟩) (x := .slice (some ⟨b, o, none⟩) l.length cap) (by simp only; omega))
     have HW' := hide (hW2.put hj3 (some ⟨b, o, none⟩) cap l)
     have HF' : Hid ((∀ i, i < 3 → Wm (w2.setCell ⟨w.heap.size + 1, j, none⟩ (.slice (some ⟨b, o, none⟩) l.length cap)) M B v2 n q2 (f.put j (some ⟨b, o, none⟩, cap, l) i).1 (f.put j (some ⟨b, o, none⟩, cap, l) i).2.1 (f.put j (some ⟨b, o, none⟩, cap, l) i).2.2 ∧ OffX (f.put j (some ⟨b, o, none⟩, cap, l) i).1 X) ∧ (∀ i, i < j + 1 → ∀ h, Tells E ns q2 ((opsL ⟨kd, wd, xa, xb, xc, xn⟩)[i]'h).toNat (f.put j (some ⟨b, o, none⟩, cap, l) i).2.2) ∧ (∀ i, j + 1 ≤ i → f.put j (some ⟨b, o, none⟩, cap, l) i = (none, 0, [])) ∧ ∀ q : Nat, k ≤ q → Maps.has D2 (.int .i64 (q : Int)) = Maps.has D (.int .i64 (q : Int))) := by
       refine ⟨fun i hi => ?_, fun i hi hh => ?_, fun i hi => ?_, fun q hq => (hd2 q (by have := HY.out; omega)).trans (F4 q hq)⟩
       · unfold Ow.put
         by_cases ei : i = j
         · rw [if_pos ei]; exact ⟨hw2.setA hW2.sl _, offX_some hb2⟩
         · rw [if_neg ei]; exact ⟨((F1 i hi).1.gom hg2 x2 ((F1 i hi).2.off HKZ.out.xm)).setA hW2.sl _, (F1 i hi).2⟩
       · unfold Ow.put
         by_cases ei : i = j
         · subst ei; rw [if_pos rfl]; exact HOn.out _ _ ht2 hh
         · rw [if_neg ei]; exact (F2 i (by omega) hh).ext he x2 (F1 i (by have := HLO.out; omega)).1.vals
       · unfold Ow.put
         rw [if_neg (by omega)]; exact F3 i (by omega)
     clear hk2 hq2 hw2 hb2 ht2 x1 x2 hg2 hd2 hW2 F1 F2 F3 F4 HK HQ HG HW HF HIW HOn HY d0
     go_wp2_with fail
     go_roundw
     case rel => exact ⟨j + 1, v2, q2, D2, _, by omega, by go_num, HK', HQ', HG', HW', HF'⟩
     case measure => simp [intOf]; omega
   · obtain rfl : j = (opsL ⟨kd, wd, xa, xb, xc, xn⟩).length := by omega
     obtain ⟨F1, F2, F3, F4⟩ := HF.out
     have hol := HOL.out
     have htf := HTF.out
     have hkn := kn_lt hk ((F4 k (Nat.le_refl _)).trans HNO.out)
     have hql := HQ.out.1
     have hl1 : qs.length + 1200 < 1000000 := by omega
     have hops0 : ∀ (i : Nat) (y : Int), ((i : Int) < takes kd → ∃ h, (opsL ⟨kd, wd, xa, xb, xc, xn⟩)[i]'h = y) → (i : Int) < takes kd → 0 ≤ y ∧ Tells E ns qs y.toNat (f i).2.2 := fun i y hy hi => by
       obtain ⟨hh, rfl⟩ := hy hi
       exact ⟨(HOps.out _ (List.getElem_mem hh)).1, F2 i hh hh⟩
     have hnil : ∀ i : Nat, ¬ (i : Int) < takes kd → (f i).2.2 = [] := fun i hi => by rw [F3 i (by omega)]
     obtain ⟨hwd, hfit, hext, hvals, hlen, htell⟩ := HNT.out qs HK.out.bs.good hl1 (F1 0 (by omega)).1.vals (F1 1 (by omega)).1.vals (F1 2 (by omega)).1.vals
       (hops0 0 xa (fun hi => ⟨by omega, (HOG.out 0 (by omega)).trans rfl⟩)) (hops0 1 xb (fun hi => ⟨by omega, (HOG.out 1 (by omega)).trans rfl⟩)) (hops0 2 xc (fun hi => ⟨by omega, (HOG.out 2 (by omega)).trans rfl⟩)) (fun h => hnil 0 (by omega)) (fun h => hnil 1 (by omega)) (fun h => hnil 2 (by omega))
     have HOP := hide (oper_any HK.out.bs (cx := (f 0).2.1) (cy := (f 1).2.1) (cz := (f 2).2.1) (xa := xa) (xb := xb) (xc := xc) hwd hl1 hfit (F1 0 (by omega)).1 (F1 1 (by omega)).1 (F1 2 (by omega)).1)
     rw [show ((wd.toNat : Nat) : Int) = wd by omega] at HOP
     unfold MadeP at HOP
     have HR := hide (And.intro hwd (And.intro hext (And.intro hvals (And.intro hlen htell))))
     have HF4 := hide (And.intro F4 (And.intro hkn (And.intro hql (F1 0 (by omega)).2)))
     have r0 := (HW.out.r 0 (by omega)).1
     have r1 := (HW.out.r 1 (by omega)).1
     have r2 := (HW.out.r 2 (by omega)).1
     obtain ⟨p0, p1, p2, p3, p4, p5⟩ : wr.cell? ⟨w.heap.size, 0, none⟩ = some (.int .i64 kd) ∧ wr.cell? ⟨w.heap.size, 1, none⟩ = some (.int .i64 wd) ∧ wr.cell? ⟨w.heap.size, 2, none⟩ = some (.int .i64 xa) ∧ wr.cell? ⟨w.heap.size, 3, none⟩ = some (.int .i64 xb) ∧ wr.cell? ⟨w.heap.size, 4, none⟩ = some (.int .i64 xc) ∧ wr.cell? ⟨w.heap.size, 5, none⟩ = some (.int .i64 xn) := ⟨HW.out.b0, HW.out.b1, HW.out.b2, HW.out.b3, HW.out.b4, HW.out.b5⟩
     clear hwd hfit hext hvals hlen htell hops0 hnil F1 F2 F3 F4 hol htf hkn hql HF
     generalize operR n kd wd.toNat xn (f 0).2.2 (f 1).2.2 (f 2).2.2 qs = R at *
     obtain ⟨rl, rq⟩ := R
     simp only at HR HOP
     go_wp2_with fail
     refine HOP.out.mono ?_
     rintro e w5 ⟨v5, p6, c6, rfl, hcap, hla, hbs, hgn⟩
     obtain ⟨h8, hext, hvals, hlen, htell⟩ := HR.out
     obtain ⟨b6, o6, rfl, _⟩ := hla.1 (by omega)
     rw [← hlen]
     rw [← hlen] at hcap
     have hK5 := HK.out.gon he hgn hbs hext
     have hwm : Wm w5 M B v5 n rq (some ⟨b6, o6, none⟩) c6 rl := ⟨hla, hcap.1, hvals⟩
     have hoff := hK5.off hla (by omega)
     obtain ⟨F4, hkn, hql, hf0⟩ := HF4.out
     have hbX : ¬ X b6 := fun hx => by
       rcases hcap.2 b6 o6 rfl with h6 | ⟨o', h6⟩
       · have := HXX.out b6 hx
         have := HG.out.bel.size
         omega
       · exact hf0 _ _ h6 hx
     have hnoK := (F4 k (Nat.le_refl _)).trans HNO.out
     obtain ⟨w6, hput, hown6, hg6⟩ := put70 hK5.own (by omega) (x := (k : Int)) (by omega) (by omega) b6 o6 rl.length c6
     obtain ⟨hK6, hgm6⟩ := hK5.put hk hnoK hwm (by omega) hbX htell hown6 hg6
     have s2 := hK5.c2
     have HFIN : Hid (WordP X E ns (some ⟨nb, no, none⟩) c0 w base Pb M B Mb v n ps D k (.returned (.slice (some ⟨b6, o6, none⟩) rl.length c6)) w6) := by
       obtain ⟨e1, x1⟩ := HQ.out.2
       refine ⟨v5, rq, _, b6, o6, c6, rl, rfl, hK6, ?_, hwm.gom hgm6 (Ext.refl hbs.good) hoff, hbX, htell, ⟨_, x1.trans hext⟩, (HG.out.trans hgn.gom).trans hgm6, fun q hq => ?_⟩
       · rw [kn_put hK5.own.isMap hnoK, if_pos hk]
         have := hext.len.2
         omega
       · rw [has_put_other (by simp; omega)]; exact F4 q (by omega)
     clear hcap hla hbs hgn hext hvals htell hK5 hwm hoff F4 hnoK hown6 hg6 hK6 hgm6 HK HQ HG HW HOP HR HF4 r0 r1 r2 p0 p1 p2 p3 p4 p5 hkn hql hf0 hbX
     unfold WordP at HFIN
     have HLN := hide hlen
     clear hlen
     go_wp2_with fail
     go_ret
     obtain ⟨v', qs', D'', b', o', cap', l', e', r'⟩ := HFIN.out
     exact ⟨v', qs', D'', b', o', cap', l', e', r'⟩
end Go.Proofs.YtabnimgpednhjabGreat.Gg

namespace Go.Proofs.YtabnimgpednhjabGreat.Gg
open Go.RowKit Go.Maps Go.WideMaps
set_option maxRecDepth 100000
theorem Kz.grown {X : Nat → Prop} {E : List Bool → List Int → Prop} {ns : List Nd} {a0 : Option Addr} {c0 : Nat} {w w1 : World} {base Pb M B Mb : Nat} {v : Value} {n : Nat} {ps : Gr} {D : DataW Unit} (h : Kz X E ns a0 c0 w base Pb M B Mb v n ps D) {row : Option Nat} (hg : w.grownBy w1 row) (hr : ∀ j, row = some j → X j ∧ base ≤ j ∧ Apart M B v j ∧ j ≠ Pb ∧ j ≠ Mb) : Kz X E ns a0 c0 w1 base Pb M B Mb v n ps D := by
 have ne : ∀ g, (∀ j, row = some j → g ≠ j) → some g ≠ row := fun g hq e => hq g e.symm rfl
 obtain ⟨D0, m1, m2⟩ := h.bs.bm.map
 have hM := h.bs.bm.mem
 have nM : some M ≠ row := ne M fun j e e2 => (hr j e).2.2.1.1 e2.symm
 have nB : some B ≠ row := ne B fun j e e2 => (hr j e).2.2.1.2.1 e2.symm
 have nP : some Pb ≠ row := ne Pb fun j e e2 => (hr j e).2.2.2.1 e2.symm
 have nMb : some Mb ≠ row := ne Mb fun j e e2 => (hr j e).2.2.2.2 e2.symm
 have nv : v.ownBlock = none ∨ v.ownBlock ≠ row := by
   cases hv : v.ownBlock with
   | none => exact Or.inl rfl
   | some j => exact Or.inr fun e => (hr j e.symm).2.2.1.2.2 hv
 refine ⟨⟨⟨⟨hg.cell hM.c0 nM, hg.cell hM.c1 nM, hg.cell hM.c2 nM, (grown_frozen hg hM.c1 nM).trans hM.f1, hM.row.kept hg nv, hM.hM, hM.hB, hM.ne, hM.nv, hM.nb⟩,
   ⟨D0, m1.kept hg nB, m2⟩, h.bs.bm.wf⟩, hg.cell h.bs.p0 nP, h.bs.ap, Nat.le_trans h.bs.hb hg.size, h.bs.good⟩, hg.cell h.c1 nP, hg.cell h.c2 nP, h.own.kept hg nMb, h.hM, h.ap, h.ne, ?_, h.nb, fun q hq => ?_, h.xm, h.leaves⟩
 · intro hn0
   obtain ⟨nb, off, e, hc⟩ := h.nodes hn0
   have hlt := h.nb hn0 nb off e
   have hnr : some nb ≠ row := ne nb fun j e e2 => by have := (hr j e).2.1; omega
   exact ⟨nb, off, e, fun i hi => by
     obtain ⟨d0, d1, d2, d3, d4, d5⟩ := hc i hi
     exact ⟨hg.cell d0 hnr, hg.cell d1 hnr, hg.cell d2 hnr, hg.cell d3 hnr, hg.cell d4 hnr, hg.cell d5 hnr⟩⟩
 · rcases h.known q hq with h1 | ⟨h1, b, o, c, l, h2, h3, h4, h5⟩
   · exact Or.inl h1
   · have hbr : some b ≠ row := ne b fun j e e2 => h4 (by rw [e2]; exact (hr j e).1)
     refine Or.inr ⟨h1, b, o, c, l, h2, ⟨⟨fun h0 => ?_, h3.la.2⟩, h3.cap, h3.vals⟩, h4, h5⟩
     obtain ⟨b', o', e, hc⟩ := h3.la.1 h0
     cases e
     exact ⟨b, o, rfl, fun i hi => hg.cell (hc i hi) hbr⟩
theorem gom_grown {base M B Mb : Nat} {w w1 w2 : World} {v v1 : Value} (h : Gom base M B Mb w v w1 v1) (hb : base ≤ w.heap.size) {row : Option Nat} (hg : w1.grownBy w2 row) (hr : ∀ j, row = some j → w.heap.size ≤ j) : Gom base M B Mb w v w2 v1 :=
 ⟨h.bel.grown hg (Nat.le_trans hb h.bel.size) (fun j hj => Nat.le_trans hb (hr j hj)), fun g hgl ha hn => by
   obtain ⟨h1, h2⟩ := h.far g hgl ha hn
   exact ⟨(hg.block g (Nat.lt_of_lt_of_le hgl h.bel.size) (fun e => by have := hr g e.symm; omega)).trans h1, h2⟩⟩
theorem owns_gom {base M B Mb : Nat} {w w1 : World} {v v1 : Value} (hg : Gom base M B Mb w v w1 v1) {b e size n : Nat} {s : Value} {xs : List Value} (h : w.ownsRow b e size s n xs) (ha : ∀ j, s.ownBlock = some j → Apart M B v j ∧ j ≠ Mb) : w1.ownsRow b e size s n xs := by
 have hlt := h.lt
 obtain ⟨h1, h2⟩ := h
 refine ⟨h1, ?_⟩
 rcases h2 with h2 | ⟨g, cap, cur, rfl, hgb, hh, hr⟩
 · exact Or.inl h2
 · exact Or.inr ⟨g, cap, cur, rfl, hgb, by rw [(hg.far g (hlt g rfl).2 (ha g rfl).1 (ha g rfl).2).1]; exact hh, hr⟩
def Xs (Mb : Nat) (s : Value) : Nat → Prop := fun g => g = Mb ∨ s.ownBlock = some g
def AllP (E : List Bool → List Int → Prop) (ns : List Nd) (a0 : Option Addr) (c0 : Nat) (w : World) (base Pb M B Mb : Nat) (v : Value) (n : Nat) (ps : Gr) (nums : List Int) (e : Ending) (w' : World) : Prop :=
 ∃ (v' : Value) (qs : Gr) (D : DataW Unit) (p : Option Addr) (cap : Nat) (ls : List (List Int)), e = .returned (.slice p ls.flatten.length cap) ∧ Kz (fun g => g = Mb) E ns a0 c0 w' base Pb M B Mb v' n qs D ∧ qs.length ≤ 1000 * kn D ns.length ∧ (LA w' M B v' p ls.flatten ∧ Off p Mb ∧ ∀ g off, p = some ⟨g, off, none⟩ → w.heap.size ≤ g) ∧ ls.length = nums.length ∧ (∀ i (h : i < ls.length), Vals n qs ls[i] ∧ Tells E ns qs (nums.getD i 0).toNat ls[i]) ∧ (∃ j, Ext n j ps qs) ∧ Gom base M B Mb w v w' v'
set_option maxHeartbeats 8000000 in
theorem all_any {E : List Bool → List Int → Prop} {ns : List Nd} {a0 : Option Addr} {c0 : Nat} {base Pb M B Mb n : Nat} (he : EnvOk E ns n) (hl80 : ns.length ≤ 80) (hn : firstN (nodeAtE ns) ns.length = 0) {w : World} {v : Value} {ps : Gr} {D : DataW Unit} (h : Kz (fun g => g = Mb) E ns a0 c0 w base Pb M B Mb v n ps D) (hs : ps.length ≤ 1000 * kn D ns.length)
   {nums : List Int} {pn : Option Addr} {cn : Nat} (hl : nums.length ≤ 1000) (hin : ∀ x ∈ nums, 0 ≤ x ∧ x < ns.length) (hN : LA w M B v pn nums) (hO : 0 < nums.length → Off pn Mb) :
   Calls Tryz.prog 35 #[.pointer (some ⟨Pb, 0, none⟩), .slice pn nums.length cn] w (AllP E ns a0 c0 w base Pb M B Mb v n ps nums) := by
 obtain ⟨i0, hi, hz0, hz1, hz2⟩ := info_parts info3
 have HKZ := hide h
 have HS := hide hs
 have HN := hide hN
 have HIN := hide hin
 have HOF := hide hO
 have HP : Hid (∀ q k l, k < ns.length → Tells E ns q k l → 0 < l.length ∧ l.length ≤ 8) := fun q k l hk ht => ht.pos hn hk
 have HPb := hide (World.block_lt_of_cell? _ _ h.c1)
 clear h hs hN hin hO
 unfold AllP
 go_enter Tryz.func35, Tryz.ntmps35
 go_wp2_with fail
 go_loopw [5, 10] (fun s i wr => ∃ (j : Nat) (v' : Value) (qs : Gr) (D' : DataW Unit) (ls : List (List Int)), j ≤ nums.length ∧ i = .int .i64 j ∧ ls.length = j ∧ Hid (Kz (Xs Mb s) E ns a0 c0 wr base Pb M B Mb v' n qs D') ∧ Hid (qs.length ≤ 1000 * kn D' ns.length ∧ ∃ e, Ext n e ps qs) ∧ Hid (Gom base M B Mb w v wr v') ∧ Hid (wr.ownsRow w.heap.size 3 1 s ls.flatten.length (ls.flatten.map (Value.int .i64)) ∧ ls.flatten.length ≤ 8 * j) ∧ Hid (∀ g, s.ownBlock = some g → Apart M B v' g ∧ g ≠ Mb) ∧ Hid (∀ i (h : i < ls.length), Vals n qs ls[i] ∧ Tells E ns qs (nums.getD i 0).toNat ls[i])) (fun _ i _ => nums.length - (intOf i).toNat)
 case atStart =>
   refine ⟨0, v, ps, D, [], Nat.zero_le _, rfl, rfl, ?_, ?_, Gom.refl, ?_, ?_, ?_⟩
   · exact HKZ.out.reX (fun k l hk ht => (HP.out _ k l hk ht).1) (fun g hg => by rcases hg with hg | hg; exact Or.inl hg; cases hg) (Or.inl rfl)
   · exact ⟨HS.out, 0, Ext.refl HKZ.out.bs.good⟩
   · exact ⟨World.ownsRow_nil _ _ _ _, Nat.zero_le _⟩
   · intro g hg; cases hg
   · intro i hi; simp at hi
 case round =>
   obtain ⟨j, v', qs, D', ls, hj, rfl, hlj, HK, HQ, HG, HR, HA, HT⟩ := hrel
   by_cases hlt : j < nums.length
   · have hx := HIN.out _ (List.getElem_mem hlt)
     have hla := HN.out.gom HG.out (HOF.out (by omega))
     obtain ⟨gn, on, rfl, hcn⟩ := hla.1 (by omega)
     have d0 := hcn j hlt
     have hjl : (j : Int) < (nums.length : Int) := by omega
     have HW := hide (word_any he hl80 hn (nums[j]).toNat (by omega) wr v' qs D' HK.out HQ.out.1 (fun g hg => by
       rcases hg with hg | hg
       · rw [hg]; exact HK.out.own.lt
       · exact (HR.out.1.lt g hg).2))
     rw [show (((nums[j]).toNat : Nat) : Int) = nums[j] by omega] at HW
     have HXE : Hid (nums.getD j 0 = nums[j] ∧ (nums[j]).toNat < ns.length) := hide ⟨getD_at hlt, by omega⟩
     unfold WordP at HW
     clear hcn hla hx
     generalize nums[j] = x at *
     go_wp2_with fail
     refine HW.out.mono ?_
     rintro e w2 ⟨v2, q2, D2, b, o, cap, l, rfl, hk2, hq2, hw2, hb2, ht2, hx2, hg2, hd2⟩
     obtain ⟨e1, x1⟩ := HQ.out.2
     obtain ⟨e2, x2⟩ := hx2
     have hp := HP.out _ _ _ HXE.out.2 ht2
     have hown2 := owns_gom hg2 HR.out.1 HA.out
     have hA2 : ∀ g, u5.ownBlock = some g → Apart M B v2 g ∧ g ≠ Mb := fun g hg => ⟨(hg2.far g (HR.out.1.lt g hg).2 (HA.out g hg).1 (HA.out g hg).2).2, (HA.out g hg).2⟩
     have hG2 := HG.out.trans hg2
     have hbw := HKZ.out.bs.hb
     have hR2 := HR.out.2
     have HFIN : Hid (∀ (g cap2 : Nat) (w3 : World), w3.ownsRow w.heap.size 3 1 (.slice (some ⟨g, 0, none⟩) (ls.flatten.length + l.length) cap2) (ls.flatten.length + l.length) (ls.flatten.map (Value.int .i64) ++ l.map (Value.int .i64)) → w2.grownBy w3 u5.ownBlock → (u5.ownBlock = some g ∨ g = w2.heap.size) →
         Kz (Xs Mb (.slice (some ⟨g, 0, none⟩) (ls.flatten.length + l.length) cap2)) E ns a0 c0 w3 base Pb M B Mb v2 n q2 D2 ∧ Gom base M B Mb w v w3 v2 ∧ (∀ q, (Value.slice (some ⟨g, 0, none⟩) (ls.flatten.length + l.length) cap2).ownBlock = some q → Apart M B v2 q ∧ q ≠ Mb)) := by
       intro g cap2 w3 hown3 hg3 hor
       have hY := hk2.reX (Y := fun q => q = Mb ∨ u5.ownBlock = some q ∨ w2.heap.size ≤ q) (fun k l hk ht => (HP.out _ k l hk ht).1) (fun q hq => by
         rcases hq with hq | hq | hq
         · exact Or.inl (Or.inl hq)
         · exact Or.inl (Or.inr hq)
         · exact Or.inr hq) (Or.inl rfl)
       have h3 := hY.grown hg3 (fun q hq => ⟨Or.inr (Or.inl hq), Nat.le_trans hbw (hown2.lt q hq).1, (hA2 q hq).1, by have := (hown2.lt q hq).1; have := HPb.out; omega, (hA2 q hq).2⟩)
       refine ⟨h3.reX (fun k l hk ht => (HP.out _ k l hk ht).1) (fun q hq => ?_) (Or.inl rfl), gom_grown hG2 hbw hg3 (fun q hq => (hown2.lt q hq).1), fun q hq => ?_⟩
       · rcases hq with hq | hq
         · exact Or.inl (Or.inl hq)
         · have hq' : g = q := by simpa [Value.ownBlock] using hq
           subst hq'
           rcases hor with h | h
           · exact Or.inl (Or.inr (Or.inl h))
           · exact Or.inl (Or.inr (Or.inr (by omega)))
       · have hq' : g = q := by simpa [Value.ownBlock] using hq
         subst hq'
         rcases hor with h | h
         · exact hA2 g h
         · exact ⟨hk2.bs.bm.new (by omega), by have := hk2.own.lt; omega⟩
     have HO2 := hide hown2
     have HLA := hide hw2.la.1
     have HT2 : Hid (∀ i (h : i < (ls ++ [l]).length), Vals n q2 (ls ++ [l])[i] ∧ Tells E ns q2 (nums.getD i 0).toNat (ls ++ [l])[i]) := by
       intro i hi
       by_cases hij : i < ls.length
       · rw [List.getElem_append_left hij]
         obtain ⟨t1, t2⟩ := HT.out i hij
         exact ⟨x2.vals t1, t2.ext he x2 t1⟩
       · have hi' : i = ls.length := by simp at hi; omega
         subst hi'
         rw [List.getElem_concat_length rfl]
         rw [hlj, HXE.out.1]
         exact ⟨hw2.vals, ht2⟩
     have HQ2 := hide (And.intro hq2 (show ∃ e, Ext n e ps q2 from ⟨e1 + e2, x1.trans x2⟩))
     have hbase2 := hG2.bel.size
     clear hk2 hq2 hw2 hb2 ht2 x1 x2 hg2 hd2 hown2 hA2 hG2 HK HQ HG HR HA HT HW d0
     generalize hFl : ls.flatten = F at *
     have HFl := hide hFl
     clear hFl
     go_wp2_with (at_builtin; refine wpList_append_lies _ rfl _ _ 25 rfl w.heap.size 3 i0 (.int .i64 0) 1 8 Tryz.underlying25 hi hz0 hz1 hz2 rfl (by decide) u5 F.length _ rfl HO2.out ⟨b, o, none⟩ l.length cap (l.map (Value.int .i64)) rfl (by simp) (ints_cells HLA.out) ?c1 hp.1 ?c2 ?c3 hbase2 w2.heap.size rfl ?_)
     case c1 =>
       intro u hu
       obtain ⟨y, _, rfl⟩ := List.mem_map.1 hu
       rfl
     case c2 => unfold maxLen; omega
     case c3 => omega
     intro g cap2 w3 hown3 hg3 hor hlt3
     obtain ⟨k3, g3, a3⟩ := HFIN.out g cap2 w3 hown3 hg3 hor
     have HK3 := hide k3
     have HG3 := hide g3
     have HA3 := hide a3
     have HR3 : Hid (w3.ownsRow w.heap.size 3 1 (.slice (some ⟨g, 0, none⟩) (F.length + l.length) cap2) (ls ++ [l]).flatten.length ((ls ++ [l]).flatten.map (Value.int .i64)) ∧ (ls ++ [l]).flatten.length ≤ 8 * (j + 1)) := by
       have e : (ls ++ [l]).flatten = F ++ l := by rw [← HFl.out]; simp
       rw [e, List.map_append, List.length_append]
       exact ⟨hown3, by omega⟩
     clear hown3 hg3 hor k3 g3 a3 HFIN HO2 HLA
     go_wp2_with fail
     go_roundw
     case rel => exact ⟨j + 1, v2, q2, D2, ls ++ [l], by omega, by go_num, by simp; omega, HK3, HQ2, HG3, HR3, HA3, HT2⟩
     case measure => simp [intOf]; omega
   · obtain rfl : j = nums.length := by omega
     obtain ⟨p, cap, rfl, hI, hnil⟩ := owns_ints HR.out.1
     have HFIN : Hid (Kz (fun g => g = Mb) E ns a0 c0 wr base Pb M B Mb v' n qs D' ∧ (LA wr M B v' p ls.flatten ∧ Off p Mb ∧ ∀ g off, p = some ⟨g, off, none⟩ → w.heap.size ≤ g)) := by
       refine ⟨HK.out.reX (fun k l hk ht => (HP.out _ k l hk ht).1) (fun g hg => Or.inl (Or.inl hg)) rfl, ⟨hI, fun g off e _ => ?_⟩, fun g off e => ?_, fun g off e => ?_⟩
       · subst e; exact (HA.out g rfl).1
       · subst e; exact (HA.out g rfl).2
       · subst e; exact (HR.out.1.lt g rfl).1
     clear hI hnil HK HA HR
     go_wp2_with fail
     go_ret
     exact ⟨v', qs, D', p, cap, ls, rfl, HFIN.out.1, HQ.out.1, HFIN.out.2, hlj, HT.out, HQ.out.2, HG.out⟩
end Go.Proofs.YtabnimgpednhjabGreat.Gg

namespace Go.Proofs.YtabnimgpednhjabGreat
open Go.RowKit Go.Maps
set_option maxRecDepth 100000
structure StC (w wr : World) (B0 : Nat) : Prop where
 q0 : wr.cell? ⟨w.heap.size, 0, none⟩ = some (.slice (some ⟨B0, 0, none⟩) 3 3)
 b0 : wr.cell? ⟨w.heap.size + 2, 0, none⟩ = some (.pointer none)
 b1 : wr.cell? ⟨w.heap.size + 2, 1, none⟩ = some (.slice (some ⟨B0, 0, none⟩) 3 3)
 b2 : wr.cell? ⟨w.heap.size + 2, 2, none⟩ = some (.map (some (w.heap.size + 1)))
 bf : wr.frozen? ⟨w.heap.size + 2, 0, none⟩ = false
 i : wr.frozen? ⟨w.heap.size + 3, 0, none⟩ = false
 bel : Below w.heap.size w wr
 sz : w.heap.size + 4 ≤ wr.heap.size
theorem StC.later {w wr w1 : World} {B0 : Nat} (h : StC w wr B0) (hb : Below wr.heap.size wr w1) : StC w w1 B0 :=
 ⟨cell_later hb h.q0, cell_later hb h.b0, cell_later hb h.b1, cell_later hb h.b2, by rw [hb.frozen (World.block_lt_of_cell? _ _ h.b0)]; exact h.bf, by rw [hb.frozen (by have := h.sz; simp; omega)]; exact h.i, bthen h.bel hb, Nat.le_trans h.sz hb.size⟩
structure StA (w wr : World) (B0 : Nat) : Prop where
 c : StC w wr B0
 own : wr.ownsMap Tryz.prog 3 slR (w.heap.size + 1) 0 (.map [])
 cnt : wr.cell? ⟨w.heap.size + 3, 0, none⟩ = some (.int .i64 0)
theorem StA.later {w wr w1 : World} {B0 : Nat} (h : StA w wr B0) (hb : Below wr.heap.size wr w1) : StA w w1 B0 := ⟨h.c.later hb, map_block h.own (hb.block _ (by have := h.c.sz; omega)), cell_later hb h.cnt⟩
structure StB (w wr : World) (B0 G : Nat) : Prop where
 c : StC w wr B0
 own : wr.ownsMap Tryz.prog 3 slR (w.heap.size + 1) 1 ((DataW.map []).put (.int .i64 1) (slD G 0 1 1))
 cnt : wr.cell? ⟨w.heap.size + 3, 0, none⟩ = some (.int .i64 1)
 row : Gg.IRow wr G [2]
 g : w.heap.size + 4 ≤ G
theorem kept_cell {w1 w2 : World} {a : Addr} {v : Value} {x : Nat} (h : w1.cell? a = some v) (hk : ∀ g, ¬ g = x → g < w1.heap.size → w2.heap[g]? = w1.heap[g]?) (hne : a.block ≠ x) : w2.cell? a = some v :=
 Gg.cell_block h (hk _ hne (World.block_lt_of_cell? _ _ h))
theorem st_made {w wr w1 w2 : World} {B0 G : Nat} (h : StA w wr B0) (hsz : wr.heap.size ≤ w1.heap.size) (hG : wr.heap.size ≤ G) (hr : Gg.IRow w1 G [2]) (hc : w1.cell? ⟨w.heap.size + 3, 0, none⟩ = some (.int .i64 1)) (hf : w1.frozen? ⟨w.heap.size + 3, 0, none⟩ = false)
   (hb : Below w.heap.size wr w1) (hk : ∀ g, ¬ g = w.heap.size + 3 → g < wr.heap.size → w1.heap[g]? = wr.heap[g]?)
   (hown : w2.ownsMap Tryz.prog 3 slR (w.heap.size + 1) 1 ((DataW.map []).put (.int .i64 1) (slD G 0 1 1))) (hg : w1.grownBy w2 (some (w.heap.size + 1))) : StB w w2 B0 G := by
 have hs := h.c.sz
 have hfz : ∀ a x, wr.cell? ⟨w.heap.size + 2, a, none⟩ = some x → wr.frozen? ⟨w.heap.size + 2, a, none⟩ = false → w1.frozen? ⟨w.heap.size + 2, a, none⟩ = false := fun a x h1 h2 => by
   rw [World.frozen?_of_block (w := wr) (a := ⟨w.heap.size + 2, a, none⟩) (hk _ (by simp) (World.block_lt_of_cell? _ _ h1))]; exact h2
 have b0' := kept_cell h.c.b0 hk (by simp)
 refine ⟨⟨hg.cell (kept_cell h.c.q0 hk (by simp)) (by simp), hg.cell b0' (by simp), hg.cell (kept_cell h.c.b1 hk (by simp)) (by simp), hg.cell (kept_cell h.c.b2 hk (by simp)) (by simp), ?_, ?_, ?_, ?_⟩, hown, hg.cell hc (by simp), ?_, by omega⟩
 · rw [Gg.grown_frozen hg b0' (by simp)]; exact hfz _ _ h.c.b0 h.c.bf
 · rw [Gg.grown_frozen hg hc (by simp)]; exact hf
 · exact (h.c.bel.trans hb).grown hg (by omega) (fun j hj => by cases hj; omega)
 · have := hg.size; omega
 · exact hr.kept (hg.block G (World.block_lt_of_cell? _ _ (hr 0 (by simp)).1) (by simp; omega))
end Go.Proofs.YtabnimgpednhjabGreat
