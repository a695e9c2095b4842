/- Going on from what is so: lists alone. -/
import Derived.Test.YtmambfdimeeijaaGreatDoorPpM
import Derived.Test.YtmambfdimeeijaaGreatDoorUhM
import Derived.Test.YtmambfdimeeijaaGreatDoorPmM
import Derived.Test.YtmambfdimeeijaaGreatDoorBaM
namespace Go.Proofs.YtmambfdimeeijaaGreatDoor.Pf
theorem li_of {V : Int} {L : List (List Int)} {ch : Int → Prop} {B : Bd} (h : Inv V L ch B) {n : Int} (hn : B.st[B.spread]? = some n) : ∃ D, LI V (-n) D ch { B with spread := B.spread + 1 } [] (B.wt (-n)) := by
 have hnm : n ∈ B.st := List.mem_of_getElem? hn
 obtain ⟨hlt, hne⟩ := List.getElem?_eq_some_iff.1 hn
 have hlt' : B.spread < B.sp.length := by rw [← st_len]; exact hlt
 have hD : ∃ D, (B.lost = false → D = B.st.take B.spread) ∧ (∀ m ∈ D, m ∈ B.st) ∧ Cmp B D := by
   cases hl : B.lost
   · exact ⟨_, fun _ => rfl, fun m hm => List.mem_of_mem_take hm, h.cmp hl⟩
   · exact ⟨[], (fun e => by cases e), (fun m hm => by simp at hm), h.one⟩
 obtain ⟨D, hD1, hD2, hD3⟩ := hD
 refine ⟨D, ?_, by rw [Int.neg_neg]; exact hnm, ⟨hD3.one, hD3.dn, hD3.dz⟩, hD2, ⟨h.snd.st, h.snd.zs⟩, fun p hp => by simp at hp, h.le⟩
 simp only [List.nil_append, upd_self]
 exact ⟨h.wf.cl, h.wf.sn, h.wf.sc, h.wf.sr, hlt', h.wf.wi, h.wf.wd, h.wf.wa, h.wf.lv⟩
theorem look_cl (nt : Int) (rest : List (Nat × Int)) : ∀ (B : Bd) (kept : List (Nat × Int)), (look nt B kept rest).1.cl.length = B.cl.length := by
 induction rest with
 | nil => intro B kept; rfl
 | cons p rest ih =>
   obtain ⟨i, o⟩ := p
   intro B kept
   unfold look
   split
   · exact ih _ _
   · split
     · rw [ih]; simp
     · split
       · simp
       · split
         · rw [ih]; simp
         · rw [ih]; simp [Bd.put]
theorem lookAt_cl (B : Bd) (nt : Int) : (B.lookAt nt).1.cl.length = B.cl.length := look_cl nt _ B []
def spreadN : Nat → Bd → Option (Bd × Int)
 | 0, _ => none
 | g + 1, B => if B.spread < B.sp.length then
     (if (({ B with spread := B.spread + 1 } : Bd).lookAt (-(B.st.getD B.spread 0))).2 = -1 then spreadN g (({ B with spread := B.spread + 1 } : Bd).lookAt (-(B.st.getD B.spread 0))).1
       else some ({ (({ B with spread := B.spread + 1 } : Bd).lookAt (-(B.st.getD B.spread 0))).1 with lost := (({ B with spread := B.spread + 1 } : Bd).lookAt (-(B.st.getD B.spread 0))).1.lost || decide ((({ B with spread := B.spread + 1 } : Bd).lookAt (-(B.st.getD B.spread 0))).1.level = 0) }, (({ B with spread := B.spread + 1 } : Bd).lookAt (-(B.st.getD B.spread 0))).2))
   else some (B, -1)
theorem spread_mono : ∀ (g : Nat) (B : Bd) (r : Bd × Int), spreadN g B = some r → spreadN (g + 1) B = some r := by
 intro g
 induction g with
 | zero => intro B r h; cases h
 | succ g ih =>
   intro B r h
   rw [spreadN] at h ⊢
   split
   · rename_i h1
     rw [if_pos h1] at h
     split
     · rename_i h2
       rw [if_pos h2] at h
       exact ih _ _ h
     · rename_i h2
       rw [if_neg h2] at h
       exact h
   · rename_i h1
     rw [if_neg h1] at h
     exact h
theorem spread_more {g : Nat} {B : Bd} {r : Bd × Int} (h : spreadN g B = some r) (d : Nat) : spreadN (g + d) B = some r := by
 induction d with
 | zero => exact h
 | succ d ih => exact spread_mono _ _ _ ih
theorem spread_one {g g' : Nat} {B : Bd} {r r' : Bd × Int} (h : spreadN g B = some r) (h' : spreadN g' B = some r') : r = r' := by
 have h1 := spread_more h g'
 have h2 := spread_more h' g
 rw [Nat.add_comm g' g, h1] at h2
 exact Option.some.inj h2
structure Spr (V : Int) (L : List (List Int)) (ch : Int → Prop) (B B' : Bd) (f : Int) : Prop where
 level : B'.level = B.level
 cl : B'.cl.length = B.cl.length
 ok : f = -1 → Inv V L ch B' ∧ B'.spread = B'.sp.length ∧ B'.lost = B.lost
 sp : ∃ t, B'.sp = B.sp ++ t
 bad : f ≠ -1 → (B.lost = false → Confl L ch) ∧ (0 < B.level → Inw V L ch B' ∧ B'.lost = B.lost) ∧ (B.level = 0 → Inv V L ch B' ∧ B'.lost = true)
 ex : ∃ g, spreadN g B = some (B', f)
structure Spn (V : Int) (L : List (List Int)) (ch : Int → Prop) (B B' : Bd) : Prop where
 level : B'.level = B.level
 cl : B'.cl.length = B.cl.length
 lost : B'.lost = B.lost
 inv : Inv V L ch B'
 spread : B.spread ≤ B'.spread
 sp : ∃ t, B'.sp = B.sp ++ t
 ex : ∀ g r, spreadN g B' = some r → ∃ g', spreadN g' B = some r
theorem Spn.refl {V : Int} {L : List (List Int)} {ch : Int → Prop} {B : Bd} (h : Inv V L ch B) : Spn V L ch B B := ⟨rfl, rfl, rfl, h, Nat.le_refl _, ⟨[], by simp⟩, fun g r e => ⟨g, e⟩⟩
section
variable {V : Int} {L : List (List Int)} {ch : Int → Prop} {B B' : Bd}
theorem Spn.done (h : Spn V L ch B B') (hs : ¬ B'.spread < B'.sp.length) : Spr V L ch B B' (-1) := ⟨h.level, h.cl, fun _ => ⟨h.inv, by have := h.inv.wf.sp; omega, h.lost⟩, h.sp, fun e => absurd rfl e, h.ex 1 _ (by rw [spreadN, if_neg hs])⟩
theorem Spn.step (h : Spn V L ch B B') {n : Int} (hn : B'.st[B'.spread]? = some n) {B2 : Bd} {f : Int} (e : ({ B' with spread := B'.spread + 1 } : Bd).lookAt (-n) = (B2, f)) :
   B2.spread = B'.spread + 1 ∧ (f = -1 → Spn V L ch B B2) ∧ (f ≠ -1 → Spr V L ch B { B2 with lost := B2.lost || decide (B2.level = 0) } f) ∧ B2.level = B.level ∧ 0 ≤ B2.level ∧ B2.sp.length ≤ (2 * V + 1).toNat := by
 have hs := step_ok h.inv hn
 have hc := lookAt_cl { B' with spread := B'.spread + 1 } (-n)
 rw [e] at hs hc
 simp only at hs hc
 have hlv : B2.level = B.level := hs.level.trans h.level
 have h0 : 0 ≤ B2.level := by rw [hlv, ← h.level]; exact h.inv.le
 have hl := nodup_len hs.wf.sn hs.wf.sr
 rw [st_len] at hl
 have hsp : ∃ t, B2.sp = B.sp ++ t := by
   obtain ⟨t, h1⟩ := h.sp
   obtain ⟨u, h2⟩ := hs.sp
   exact ⟨t ++ u, by rw [h2, h1, List.append_assoc]⟩
 have hlt : B'.spread < B'.sp.length := by
   have := (List.getElem?_eq_some_iff.1 hn).1
   rw [st_len] at this
   exact this
 have hgn : B'.st.getD B'.spread 0 = n := by rw [List.getD_eq_getElem?_getD, hn]; rfl
 refine ⟨hs.spread, fun ef => ⟨hlv, hc.trans h.cl, hs.lost.trans h.lost, hs.ok ef, by rw [hs.spread]; have := h.spread; omega, hsp, fun g r e3 => h.ex (g + 1) r (by rw [spreadN, if_pos hlt, hgn, e, if_pos ef]; exact e3)⟩, fun ef => ?_, hlv, h0, hl⟩
 obtain ⟨_, b1, b2, b3⟩ := hs.bad ef
 refine ⟨hlv, hc.trans h.cl, fun e1 => absurd e1 ef, hsp, fun _ => ⟨fun e1 => b1 (h.lost.trans e1), fun e1 => ?_, fun e1 => ?_⟩, h.ex 1 _ (by rw [spreadN, if_pos hlt, hgn, e, if_neg ef])⟩
 · have hd : decide (B2.level = 0) = false := by simp; omega
   have : ({ B2 with lost := B2.lost || decide (B2.level = 0) } : Bd) = B2 := by rw [hd, Bool.or_false]
   rw [this]
   exact ⟨b2 (by rw [h.level]; exact e1), hs.lost.trans h.lost⟩
 · have hd : decide (B2.level = 0) = true := by simp; omega
   rw [hd, Bool.or_true]
   exact ⟨b3 (by rw [h.level]; exact e1), rfl⟩
end
end Go.Proofs.YtmambfdimeeijaaGreatDoor.Pf

namespace Go.Proofs.YtmambfdimeeijaaGreatDoor.Pf
open Go.RowKit Go.Maps Go.WideMaps
set_option maxRecDepth 100000
def BdAt (w : World) (X : Nat → Prop) (R nS nW : Nat) (B : Bd) : Prop := ∃ S W vc vs wk cg cc wv, Mb w X R S W nS nW vc vs wk cg cc wv B
def SprOut (w : World) (X : Nat → Prop) (R nS nW : Nat) (V : Int) (L : List (List Int)) (ch : Int → Prop) (B : Bd) (e : Ending) (w' : World) : Prop :=
 ∃ f B' X' nS' nW', e = .returned (.int .i64 f) ∧ BdAt w' X' R nS' nW' B' ∧ Fr X w w' X' ∧ nS' + B.sp.length ≤ nS + B'.sp.length ∧ nW' ≤ nW + 320100000000 ∧ B'.sp.length ≤ (2 * V + 1).toNat ∧ Spr V L ch B B' f
theorem Mb.stepAt {w : World} {X : Nat → Prop} {R S W nS nW : Nat} {vc vs : Value} {wk : Int} {cg cc : Nat → Nat} {wv : Int → Value} {B : Bd} (h : Mb w X R S W nS nW vc vs wk cg cc wv B) {j : Nat} (hj : j < B.sp.length) : ∃ g cap, vs = .slice (some ⟨g, 0, none⟩) B.sp.length cap ∧ w.cell? ⟨g, j * 3, none⟩ = some (.int .i64 B.sp[j].1) := by
 have hr := h.st
 rcases hr.2 with ⟨_, h0⟩ | ⟨g, cap, cur, e, _⟩
 · omega
 · refine ⟨g, cap, e, ?_⟩
   rw [e] at hr
   have := hr.cellAt (j * 3) (by show j * 3 < B.sp.length * 3; omega)
   rw [(flatS_at hj).1] at this
   exact this
set_option maxHeartbeats 4000000 in
theorem spread_any (w : World) (X : Nat → Prop) (R nS nW : Nat) (B : Bd) (hB : BdAt w X R nS nW B) (V : Int) (L : List (List Int)) (ch : Int → Prop) (hI : Inv V L ch B) (hV : V ≤ 200000) (hcl : B.cl.length ≤ 800000) (hnS : nS ≤ 10000000000000) (hnW : nW ≤ 800000000000000000) :
   Calls Tryz.prog 189 #[.pointer (some ⟨R, 0, none⟩)] w (SprOut w X R nS nW V L ch B) := by
 have HJ0 : Hid (BdAt w X R nS nW B ∧ Fr X w w X ∧ Spn V L ch B B) := ⟨hB, Fr.refl _ _, Spn.refl hI⟩
 clear hB hI
 go_enter Tryz.func189, Tryz.ntmps189
 go_wp2_with fail
 go_loopw [] (fun wr => ∃ (k : Nat), Hid (wr.cell? ⟨R, 7, none⟩ = some (.int .i64 k)) ∧ Hid (∃ B' X' nS' nW', BdAt wr X' R nS' nW' B' ∧ Fr X w wr X' ∧ Spn V L ch B B' ∧ B'.spread = k ∧ nS' + B.sp.length ≤ nS + B'.sp.length ∧ nW' + B.spread * 800001 ≤ nW + B'.spread * 800001)) (fun wr => 400002 - (intOf ((wr.cell? ⟨R, 7, none⟩).getD (.int .i64 0))).toNat)
 case atStart =>
   obtain ⟨hb, hf, hs⟩ := HJ0.out
   refine ⟨B.spread, ?_, B, X, nS, nW, hb, hf, hs, rfl, Nat.le_refl _, Nat.le_refl _⟩
   obtain ⟨S, W, vc, vs, wk, cg, cc, wv, hM⟩ := hb
   exact hM.c7
 case round =>
   obtain ⟨k, hck, HJ⟩ := hrel
   obtain ⟨B1, X1, nS1, nW1, hb1, hF1, hN1, hk1, hnS1, hnW1⟩ := HJ.out
   obtain ⟨S, W, vc, vs, wk, cg, cc, wv, hM1⟩ := hb1
   have hspl := hN1.inv.wf.spLen hV
   have hspr := hN1.inv.wf.sp
   have c7 := hM1.c7
   have c1 := hM1.c1
   rw [hk1] at c7
   have hkl : k ≤ B1.sp.length := by omega
   obtain ⟨ps, cs, hvs⟩ : ∃ p c, vs = .slice p B1.sp.length c := by
     rcases hM1.st.2 with ⟨e, e0⟩ | ⟨g, c, cur, e, _⟩
     · rw [e0]; exact ⟨_, _, e⟩
     · exact ⟨_, _, e⟩
   by_cases hlt : k < B1.sp.length
   · obtain ⟨g, cap, hvs', x0⟩ := hM1.stepAt hlt
     obtain ⟨n, hn⟩ : ∃ n, B1.sp[k].1 = n := ⟨_, rfl⟩
     rw [hn] at x0
     rw [hvs'] at c1
     have hst : B1.st[B1.spread]? = some n := by
       unfold Bd.st
       rw [List.getElem?_map, hk1, List.getElem?_eq_getElem hlt]
       simp [hn]
     have hsmn : Small n := (hN1.inv.wf.sr n (List.mem_of_getElem? hst)).small hV
     have hn1 := hsmn.1
     have hn2 := hsmn.2
     obtain ⟨D, hLI⟩ := li_of hN1.inv hst
     obtain ⟨B2, f, hlk⟩ : ∃ B2 f, ({ B1 with spread := B1.spread + 1 } : Bd).lookAt (-n) = (B2, f) := ⟨_, _, rfl⟩
     have HST := hide (hN1.step hst hlk)
     obtain ⟨m, hm⟩ : ∃ m, B1.sp.length = m := ⟨_, rfl⟩
     have hlti : (k : Int) < (m : Int) := by omega
     have hltm : k < m := by omega
     have hmm : m ≤ 400001 := by omega
     rw [hm] at c1
     have hcl1 : B1.cl.length ≤ 800000 := by rw [hN1.cl]; exact hcl
     have f7 := hM1.fz 7
     have HMD : Hid (Mb (wr.setCell ⟨R, 7, none⟩ (.int .i64 ((k : Int) + 1))).drew.drew X1 R S W nS1 nW1 vc vs wk cg cc wv { B1 with spread := B1.spread + 1 }) := by
       rw [hk1]
       exact (hM1.board (w1 := wr.setCell ⟨R, 7, none⟩ (.int .i64 ((k : Int) + 1))) ((Below.refl 0 _).setCell (Nat.zero_le _) _).size (fun g hg => Below.heap_setCell _ _ _ _ hg) B1.level B1.lost (k + 1) wk (by rw [heap_setCell_same _ _ _ _ _ _ hM1.bd]; rfl)).later ((Below.refl _ _).drew).drew
     have HFD : Hid (Fr X w (wr.setCell ⟨R, 7, none⟩ (.int .i64 ((k : Int) + 1))).drew.drew X1) := (hF1.trans (Fr.set (q := ⟨R, 7, none⟩) hM1.xr _)).trans (Fr.quiet ((Below.refl _ _).drew).drew)
     have HLA := hide (lookAt_any _ X1 R S W nS1 nW1 vc vs wk cg cc wv _ HMD.out V (-n) D ch hLI hV hsmn.neg hcl1 (by omega) (by omega))
     have HN := hide (And.intro hnS1 (And.intro hnW1 (And.intro hk1 hm)))
     have HLK := hide hlk
     have HSPR : Hid (B.spread ≤ k) := by unfold Hid; rw [← hk1]; exact hN1.spread
     clear hM1 hF1 hN1 hnS1 hnW1 hspl hspr HJ hvs hkl hk1 hm hlk hst hLI hcl1 hsmn hn hvs'
     go_upto_region 1 with fail
     go_region_held3 (fun w' => w'.cell? ⟨R, 7, none⟩ = some (.int .i64 k) ∧ w'.cell? ⟨R, 1, none⟩ = some (.slice (some ⟨g, 0, none⟩) m cap)) (first | exact ⟨c7, c1⟩ | go_keep) (fail)
     go_upto_region 2 with fail
     go_region_held3 (fun w' => w'.cell? ⟨R, 7, none⟩ = some (.int .i64 k) ∧ w'.cell? ⟨R, 1, none⟩ = some (.slice (some ⟨g, 0, none⟩) m cap) ∧ w'.cell? ⟨g, k * 3, none⟩ = some (.int .i64 n)) (first | exact ⟨c7, c1, x0⟩ | go_keep) (fail)
     go_upto_region 4 with fail
     generalize (wr.setCell ⟨R, 7, none⟩ (.int .i64 ((k : Int) + 1))).drew.drew = w2 at *
     clear c7 c1 x0 f7
     go_wp2_with fail
     refine HLA.out.mono ?_
     unfold LkOut
     rw [HLK.out]
     rintro e w3 ⟨rfl, X3, nS3, nW3, vs3, wk3, wv3, hM3, hF3, hnS3, hnW3⟩
     have HM3 := hide hM3
     have HF3 := hide (HFD.out.trans hF3)
     have HN3 := hide (And.intro hnS3 hnW3)
     clear hM3 hF3 hnS3 hnW3 HLA
     by_cases hf : f = -1
     · subst hf
       have c7' := HM3.out.c7
       rw [HST.out.1] at c7'
       have HC7 := hide c7'
       clear c7'
       go_wp2_with fail
       go_roundw
       case rel =>
         refine ⟨k + 1, ?_, B2, X3, nS3, nW3, ⟨_, _, _, _, _, _, _, _, HM3.out⟩, HF3.out, (by first | exact HST.out.2.1 rfl | exact HST.out.2.1 trivial), ?_, ?_, ?_⟩
         · have := HC7.out
           rw [HN.out.2.2.1] at this
           exact this
         · rw [HST.out.1, HN.out.2.2.1]
         · have := HN.out.1; have := HN3.out.1; omega
         · have h1 := HN.out.2.1; have h2 := HN3.out.2; have h3 := HST.out.1; omega
       case measure =>
         have h1 := HC7.out
         rw [HN.out.2.2.1] at h1
         have h2 := hck.out
         rw [h1, h2]
         simp [intOf]
         omega
     · have hfb : (f == -1) = false := by simpa using hf
       have HSP := hide (HST.out.2.2.1 hf)
       have HLV := hide HST.out.2.2.2
       have c2 := HM3.out.c2
       have c3 := HM3.out.c3
       have f3 := HM3.out.fz 3
       have HM4 : Hid (Mb (w3.setCell ⟨R, 3, none⟩ (.bool (B2.lost || decide (B2.level = 0)))) X3 R S W nS3 nW3 vc vs3 wk3 cg cc wv3 { B2 with lost := B2.lost || decide (B2.level = 0) }) :=
         HM3.out.board ((Below.refl 0 _).setCell (Nat.zero_le _) _).size (fun g hg => Below.heap_setCell _ _ _ _ hg) B2.level (B2.lost || decide (B2.level = 0)) B2.spread wk3 (by rw [heap_setCell_same _ _ _ _ _ _ HM3.out.bd]; rfl)
       have HF4 : Hid (Fr X w (w3.setCell ⟨R, 3, none⟩ (.bool (B2.lost || decide (B2.level = 0)))) X3) := HF3.out.trans (Fr.set (q := ⟨R, 3, none⟩) HM3.out.xr _)
       have HEND : Hid (∀ u, Mb u X3 R S W nS3 nW3 vc vs3 wk3 cg cc wv3 { B2 with lost := B2.lost || decide (B2.level = 0) } → Fr X w u X3 → SprOut w X R nS nW V L ch B (.returned (.int .i64 f)) u) := fun u h1 h2 => by
         refine ⟨f, _, X3, nS3, nW3, rfl, ⟨_, _, _, _, _, _, _, _, h1⟩, h2, ?_, ?_, HLV.out.2.2, HSP.out⟩
         · show nS3 + B.sp.length ≤ nS + B2.sp.length
           have h8 := HN.out.1
           have h9 : nS3 + B1.sp.length ≤ nS1 + B2.sp.length := HN3.out.1
           omega
         · have h3 := HN.out.2.1; have h4 := HN3.out.2; have h5 := HN.out.2.2.1; omega
       clear HST
       cases hlo : B2.lost
       · rw [hlo] at c3 HM4 HF4 HEND
         by_cases hlv : B2.level = 0
         · have hd : decide (B2.level = 0) = true := by simpa using hlv
           rw [hd] at HM4 HF4 HEND
           simp only [Bool.or_true] at HM4 HF4 HEND
           rw [hlv] at c2
           clear hd hlv
           go_wp2_with fail
           go_ret
           exact HEND.out _ HM4.out HF4.out
         · have hd : decide (B2.level = 0) = false := by simpa using hlv
           rw [hd] at HM4 HF4 HEND
           simp only [Bool.or_false] at HM4 HF4 HEND
           have hlvb : (B2.level == 0) = false := by simpa using hlv
           clear hd
           go_wp2_with fail
           go_ret
           exact HEND.out _ HM4.out HF4.out
       · rw [hlo] at c3 HM4 HF4 HEND
         simp only [Bool.true_or] at HM4 HF4 HEND
         go_wp2_with fail
         go_ret
         exact HEND.out _ HM4.out HF4.out
   · have HD := hide (hN1.done (by omega))
     have HE : Hid (SprOut w X R nS nW V L ch B (.returned (.int .i64 (-1))) wr.drew) := by
       refine ⟨-1, B1, X1, nS1, nW1, rfl, ⟨S, W, vc, vs, wk, cg, cc, wv, hM1.later (Below.refl _ wr).drew⟩, hF1.trans (Fr.quiet (Below.refl _ wr).drew), hnS1, ?_, ?_, HD.out⟩
       · omega
       · have := nodup_len hN1.inv.wf.sn hN1.inv.wf.sr
         rw [st_len] at this
         exact this
     rw [hvs] at c1
     obtain ⟨m, hm⟩ : ∃ m, B1.sp.length = m := ⟨_, rfl⟩
     have hlti : ¬ (k : Int) < (m : Int) := by omega
     rw [hm] at c1
     clear hM1 hF1 hN1 hnS1 hnW1 hspl hspr HJ HD hvs hkl hk1 hm
     go_upto_region 1 with fail
     go_region_held3 (fun w' => w'.cell? ⟨R, 7, none⟩ = some (.int .i64 k) ∧ w'.cell? ⟨R, 1, none⟩ = some (.slice ps m cs)) (first | exact ⟨c7, c1⟩ | go_keep) (fail)
     go_wp2_with fail
     go_ret
     exact HE.out
end Go.Proofs.YtmambfdimeeijaaGreatDoor.Pf

namespace Go.Proofs.YtmambfdimeeijaaGreatDoor.Pf
open Go.RowKit Go.Maps Go.WideMaps
set_option maxRecDepth 100000
theorem map_empty {H : Type} {w : World} {P : Program} {k : TypeId} {R : Value → Option (DataW H × List MemPlace)} {b : Nat} (h : w.heap[b]? = some (.map #[] 0)) : w.ownsMap P k R b 0 (.map []) := ⟨#[], 0, h, ⟨by simp, Go.MapKept.stamped_empty 0, by simp⟩, Nat.le_refl _, rfl⟩
theorem heap_new (w : World) (o : Obj) : (w.alloc o).heap[w.heap.size]? = some o := (MapKept.heap_alloc w o).1
theorem heap_old (w : World) (o : Obj) {g : Nat} (h : g < w.heap.size) : (w.alloc o).heap[g]? = w.heap[g]? := (bal (Below.refl _ w) o).block g h
theorem size_new (w : World) (o : Obj) : (w.alloc o).heap.size = w.heap.size + 1 := by simp
theorem run_mk103 (w : World) : (Instr.makeMap 127 none).run Tryz.prog w = .ok (.map (some w.heap.size)) (w.alloc (.map #[] 0)) := rfl
theorem run_mk104 (w : World) : (Instr.makeMap 214 none).run Tryz.prog w = .ok (.map (some w.heap.size)) (w.alloc (.map #[] 0)) := rfl
def AdOut (w : World) (X : Nat → Prop) (R nS nW : Nat) (V : Int) (L : List (List Int)) (B : Bd) (l : List Int) (e : Ending) (w' : World) : Prop :=
 e = .returned (.tuple #[]) ∧ ∃ B' X' nS' nW', BdAt w' X' R nS' nW' B' ∧ Fr X w w' X' ∧ Inv V (L ++ [l]) (fun _ => False) B' ∧ (B'.level = 0 ∧ B' = B.add (layD B.st l)) ∧ B'.cl.length ≤ B.cl.length + 1 ∧ nS' ≤ nS + 1 ∧ nW' ≤ nW + 2
theorem add_cl (B : Bd) (d : List Int) : (B.add d).cl.length ≤ B.cl.length + 1 := by
 unfold Bd.add
 split
 · simp
 · split
   · simp [Bd.put]
   · simp
theorem addB_any (w : World) (X : Nat → Prop) (R nS nW : Nat) (B : Bd) (hB : BdAt w X R nS nW B) (V : Int) (L : List (List Int)) (hI : Inv V L (fun _ => False) B) (h0 : B.level = 0) (hV : V ≤ 200000) (hcl : B.cl.length ≤ 800000) (hnS : nS ≤ 10000000000000) (hnW : nW ≤ 800000000000000000) (q : Option Addr) (cq : Nat) (l : List Int) (hl : l.length ≤ 200) (hx : ∀ x ∈ l, Num V x) (hA : IntsAt w q l) :
   Calls Tryz.prog 199 #[.pointer (some ⟨R, 0, none⟩), .slice q l.length cq] w (AdOut w X R nS nW V L B l) := by
 obtain ⟨S, W, vc, vs, wk, cg, cc, wv, hM⟩ := hB
 have hmain : Calls Tryz.prog 199 #[.pointer (some ⟨R, 0, none⟩), .slice q l.length cq] w (AddOut w X R S W nS nW B l) := by
   cases l with
   | nil => exact add0_any w X R S W nS nW vc vs wk cg cc wv B hM q cq
   | cons a l =>
     exact add1_any w X R S W nS nW vc vs wk cg cc wv B hM q cq (a :: l) hl (by simp) (fun x h => (hx x h).small hV) hA (by omega) (by have := hI.wf.spLen hV; omega) (by omega) (fun x => by have := hI.wf.wtLen x; omega) (by omega)
 refine hmain.mono ?_
 rintro e w' ⟨rfl, d, X', nS', nW', vc', vs', wk', cg', cc', wv', hLd, hdl, hM', hF, hn1, hn2⟩
 obtain ⟨hi, hl0⟩ := add_ok hI h0 hLd.1 (by omega) hx
 exact ⟨rfl, B.add d, X', nS', nW', ⟨S, W, vc', vs', wk', cg', cc', wv', hM'⟩, hF, hi, ⟨hl0, by rw [← hLd.2]⟩, add_cl B d, hn1, hn2⟩
theorem row_nil (w : World) (base : Nat) (e : TypeId) (sz : Nat) : w.ownsRow base e sz (.slice none 0 0) 0 [] := ⟨by simp, .inl ⟨rfl, rfl⟩⟩
theorem newMb {w : World} {R S W : Nat} (hb : w.heap[R]? = some (.cells #[.slice none 0 0, .slice none 0 0, .int .i64 0, .bool false, .int .i64 0, .map (some S), .map (some W), .int .i64 0] 216 (0, 0))) (hS : w.heap[S]? = some (.map #[] 0)) (hW : w.heap[W]? = some (.map #[] 0)) (hne : S ≠ W) :
   BdAt w (fun g => g = R ∨ g = S ∨ g = W) R 0 0 Bd.nil := by
 have lt : ∀ {g o}, w.heap[g]? = some o → g < w.heap.size := fun h => (Array.getElem?_eq_some_iff.1 h).1
 refine ⟨S, W, .slice none 0 0, .slice none 0 0, 0, fun _ => 0, fun _ => 0, fun _ => .slice none 0 0, hb, ⟨.map [], map_empty hS, soIs_zero⟩, ⟨.map [], map_empty hW, fun x => rfl⟩, row_nil _ _ _ _, row_nil _ _ _ _, fun i hi => by simp [Bd.nil] at hi, fun x => row_nil _ _ _ _, fun i j hi => by simp [Bd.nil] at hi, fun x y g hg => by simp [Value.ownBlock] at hg, hne, .inl rfl, .inr (.inl rfl), .inr (.inr rfl), fun g hg => by simp [Value.ownBlock] at hg, fun g hg => by simp [Value.ownBlock] at hg, fun i hi => by simp [Bd.nil] at hi, fun x g hg => by simp [Value.ownBlock] at hg, fun g hg => ?_⟩
 rcases hg with rfl | rfl | rfl
 · exact lt hb
 · exact lt hS
 · exact lt hW
def addAll (L : List (List Int)) : Bd := L.foldl (fun B l => B.add (layD B.st l)) Bd.nil
theorem addAll_snoc (L : List (List Int)) (l : List Int) : addAll (L ++ [l]) = (addAll L).add (layD (addAll L).st l) := by simp [addAll, List.foldl_append]
def NewOut (w : World) (V : Int) (L : List (List Int)) (e : Ending) (w' : World) : Prop :=
 ∃ R B X nS nW, e = .returned (.pointer (some ⟨R, 0, none⟩)) ∧ BdAt w' X R nS nW B ∧ Below w.heap.size w w' ∧ (∀ g, X g → w.heap.size ≤ g) ∧ Inv V L (fun _ => False) B ∧ (B.level = 0 ∧ ∃ g f, spreadN g (addAll L) = some (B, f)) ∧ (B.lost = false → B.spread = B.sp.length) ∧ B.cl.length ≤ L.length ∧ nS ≤ 1000000000 ∧ nW ≤ 1000000000000
set_option maxHeartbeats 4000000 in
theorem new_any (V : Int) (hV : V ≤ 200000) (vars : Int) (p : Option Addr) (cap : Nat) (rs : List Row) (hl : rs.length ≤ 800000) (hx : ∀ r ∈ rs, r.ns.length ≤ 200 ∧ ∀ x ∈ r.ns, Num V x) (w : World) (hC : ClAt w p rs) :
   Calls Tryz.prog 187 #[cval vars p rs.length cap] w (NewOut w V (rs.map (·.ns))) := by
 have HX := hide hx
 have HC := hide hC
 clear hx hC
 have h103 := run_mk103
 have h104 := run_mk104
 obtain ⟨n, hn⟩ : ∃ n, rs.length = n := ⟨_, rfl⟩
 rw [hn]
 have hB4 : Below w.heap.size w ((((w.alloc (.cells #[.int .i64 vars, .slice p n cap] 30)).alloc (.map #[] 0)).alloc (.map #[] 0)).alloc (.cells #[.slice none 0 0, .slice none 0 0, .int .i64 0, .bool false, .int .i64 0, .map (some (w.heap.size + 1)), .map (some (w.heap.size + 1 + 1)), .int .i64 0] 216)) := bal (bal (bal (bal (Below.refl _ _) _) _) _) _
 have hbd := newMb (w := (((w.alloc (.cells #[.int .i64 vars, .slice p n cap] 30)).alloc (.map #[] 0)).alloc (.map #[] 0)).alloc (.cells #[.slice none 0 0, .slice none 0 0, .int .i64 0, .bool false, .int .i64 0, .map (some (w.heap.size + 1)), .map (some (w.heap.size + 1 + 1)), .int .i64 0] 216)) (R := w.heap.size + 1 + 1 + 1) (S := w.heap.size + 1) (W := w.heap.size + 1 + 1)
   (by have := heap_new (((w.alloc (.cells #[.int .i64 vars, .slice p n cap] 30)).alloc (.map #[] 0)).alloc (.map #[] 0)) (.cells #[.slice none 0 0, .slice none 0 0, .int .i64 0, .bool false, .int .i64 0, .map (some (w.heap.size + 1)), .map (some (w.heap.size + 1 + 1)), .int .i64 0] 216); rwa [size_new, size_new, size_new] at this)
   (by rw [heap_old _ _ (by rw [size_new, size_new, size_new]; omega), heap_old _ _ (by rw [size_new, size_new]; omega)]; have := heap_new (w.alloc (.cells #[.int .i64 vars, .slice p n cap] 30)) (.map #[] 0); rwa [size_new] at this)
   (by rw [heap_old _ _ (by rw [size_new, size_new, size_new]; omega)]; have := heap_new ((w.alloc (.cells #[.int .i64 vars, .slice p n cap] 30)).alloc (.map #[] 0)) (.map #[] 0); rwa [size_new, size_new] at this) (by omega)
 have HN := hide hn
 have hn8 : n ≤ 800000 := by omega
 clear hn
 go_enter Tryz.func187, Tryz.ntmps187
 go_wp2_with fail
 have hXB : ∀ g, (g = w.heap.size + 1 + 1 + 1 ∨ g = w.heap.size + 1 ∨ g = w.heap.size + 1 + 1) → w.heap.size ≤ g := fun g hg => by omega
 generalize ((((w.alloc (.cells #[.int .i64 vars, .slice p n cap] 30)).alloc (.map #[] 0)).alloc (.map #[] 0)).alloc (.cells #[.slice none 0 0, .slice none 0 0, .int .i64 0, .bool false, .int .i64 0, .map (some (w.heap.size + 1)), .map (some (w.heap.size + 1 + 1)), .int .i64 0] 216)) = w4 at *
 generalize hX0 : (fun g => g = w.heap.size + 1 + 1 + 1 ∨ g = w.heap.size + 1 ∨ g = w.heap.size + 1 + 1) = X0 at *
 have HXB : Hid (∀ g, X0 g → w.heap.size ≤ g) := fun g hg => hXB g (by rw [← hX0] at hg; exact hg)
 have HB4 := hide hB4
 have HBD := hide hbd
 clear hB4 hbd hX0 hXB h103 h104
 generalize w.heap.size + 1 + 1 + 1 = R at *
 go_loopw [13] (fun t wr => ∃ k : Nat, k ≤ n ∧ t = .int .i64 k ∧ Hid (∃ B' X' nS' nW', BdAt wr X' R nS' nW' B' ∧ Fr X0 w4 wr X' ∧ Inv V ((rs.map (·.ns)).take k) (fun _ => False) B' ∧ (B'.level = 0 ∧ B' = addAll ((rs.map (·.ns)).take k)) ∧ B'.cl.length ≤ k ∧ nS' ≤ k ∧ nW' ≤ 2 * k)) (fun t _ => n - (intOf t).toNat)
 case atStart => exact ⟨0, Nat.zero_le _, rfl, Bd.nil, X0, 0, 0, HBD.out, Fr.refl _ _, by rw [List.take_zero]; exact nil_ok V, ⟨rfl, rfl⟩, Nat.le_refl _, Nat.le_refl _, Nat.le_refl _⟩
 case round =>
   obtain ⟨k, hk, rfl, HJ⟩ := hrel
   obtain ⟨B, X, nS, nW, hb, hF, hI, hlv, hcl, hnS, hnW⟩ := HJ.out
   have hbw : Below w.heap.size w wr := by
     have h1 := hF.below (base := w.heap.size) HB4.out.size HXB.out
     exact HB4.out.trans h1
   have hCr := HC.out.later hbw
   by_cases hlt : k < n
   · have hkr : k < rs.length := by have := HN.out; omega
     obtain ⟨b, off, hp, hrow⟩ := hCr.rows (by omega)
     subst hp
     have x0 := hrow k hkr
     have hin := hCr.inn rs[k] (List.getElem_mem hkr)
     obtain ⟨hr1, hr2⟩ := HX.out rs[k] (List.getElem_mem hkr)
     have HAD := hide (addB_any wr X R nS nW B hb V _ hI hlv.1 hV (by omega) (by omega) (by omega) rs[k].at' rs[k].cap rs[k].ns hr1 hr2 hin)
     have htk : (rs.map (·.ns)).take k ++ [rs[k].ns] = (rs.map (·.ns)).take (k + 1) := by
       rw [List.take_succ_eq_append_getElem (by simpa using hkr)]
       simp
     have HTK := hide htk
     have HLV := hide hlv.2
     unfold Row.v at x0
     have hlti : (k : Int) < (n : Int) := by omega
     have HN2 := hide (And.intro hcl (And.intro hnS hnW))
     have HF := hide hF
     clear hrow hin hr1 hr2 htk hb hF hI hlv hcl hnS hnW hCr HJ hbw
     generalize rs[k].ns = ns at *
     generalize rs[k].at' = q at *
     generalize rs[k].cap = c2 at *
     clear hkr
     generalize hm : ns.length = m at *
     go_wp2_with fail
     refine HAD.out.mono ?_
     rintro e w5 ⟨rfl, B5, X5, nS5, nW5, hb5, hF5, hI5, hlv5, hcl5, hnS5, hnW5⟩
     rw [HTK.out] at hI5
     have HJ5 : Hid (∃ B' X' nS' nW', BdAt w5 X' R nS' nW' B' ∧ Fr X0 w4 w5 X' ∧ Inv V ((rs.map (·.ns)).take (k + 1)) (fun _ => False) B' ∧ (B'.level = 0 ∧ B' = addAll ((rs.map (·.ns)).take (k + 1))) ∧ B'.cl.length ≤ k + 1 ∧ nS' ≤ k + 1 ∧ nW' ≤ 2 * (k + 1)) :=
       ⟨B5, X5, nS5, nW5, hb5, HF.out.trans hF5, hI5, ⟨hlv5.1, by rw [← HTK.out, addAll_snoc, ← HLV.out]; exact hlv5.2⟩, by have := HN2.out; omega, by have := HN2.out; omega, by have := HN2.out; omega⟩
     clear hb5 hF5 hI5 hlv5 hcl5 hnS5 hnW5 HAD HTK
     go_wp2_with fail
     go_roundw
     case rel => exact ⟨k + 1, by omega, by go_num, HJ5.out⟩
     case measure => simp [intOf]; omega
   · have hlti : ¬ (k : Int) < (n : Int) := by omega
     have htk : (rs.map (·.ns)).take k = rs.map (·.ns) := List.take_of_length_le (by rw [List.length_map, HN.out]; omega)
     rw [htk] at hI hlv
     have HSP := hide (spread_any wr X R nS nW B hb V _ (fun _ => False) hI hV (by omega) (by omega) (by omega))
     have HF := hide hF
     have HQ := hide (And.intro hlv (And.intro hcl (And.intro hnS hnW)))
     have HSL := hide (hI.wf.spLen hV)
     have HBW := hide hbw
     clear hb hF hI hlv hcl hnS hnW hCr HJ htk hbw
     go_wp2_with fail
     refine HSP.out.mono ?_
     rintro e w5 ⟨f, B5, X5, nS5, nW5, rfl, hb5, hF5, hnS5, hnW5, hsl5, hsp5⟩
     have HE : Hid (NewOut w V (rs.map (·.ns)) (.returned (.pointer (some ⟨R, 0, none⟩))) w5) := by
       have hF6 := HF.out.trans hF5
       have h1 := hF6.below (base := w.heap.size) HB4.out.size HXB.out
       refine ⟨R, B5, X5, nS5, nW5, rfl, hb5, HB4.out.trans h1, fun g hg => ?_, ?_, ⟨hsp5.level.trans HQ.out.1.1, by
         obtain ⟨g, hg⟩ := hsp5.ex
         rw [HQ.out.1.2] at hg
         exact ⟨g, f, hg⟩⟩, ?_, ?_, ?_, ?_⟩
       · by_cases hgs : g < w4.heap.size
         · exact HXB.out g (hF6.fro g hgs hg)
         · have := HB4.out.size; omega
       · by_cases hf : f = -1
         · exact (hsp5.ok hf).1
         · exact ((hsp5.bad hf).2.2 HQ.out.1.1).1
       · intro e0
         by_cases hf : f = -1
         · exact (hsp5.ok hf).2.1
         · rw [((hsp5.bad hf).2.2 HQ.out.1.1).2] at e0; cases e0
       · rw [hsp5.cl, List.length_map]; have := HQ.out.2.1; have := HN.out; omega
       · have := HQ.out.2.2.1; omega
       · have := HQ.out.2.2.2; omega
     clear hb5 hF5 hnS5 hnW5 hsl5 hsp5 HSP
     go_wp2_with fail
     go_ret
     exact HE.out
end Go.Proofs.YtmambfdimeeijaaGreatDoor.Pf
