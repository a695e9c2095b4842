/- A board: all that must be is put in, the walk of Spread. -/
import Derived.Test.YtdlfjijfdibocaaPq
import Derived.Test.YtdlfjijfdibocaaPg
import Derived.Test.YtdlfjijfdibocaaPm
import Derived.Test.YtdlfjijfdibocaaUj
namespace Go.Proofs.Ytdlfjijfdibocaa.Pf
open Go.RowKit Go.Maps Go.WideMaps
set_option maxRecDepth 100000

/-- A board lies at R; what of it is of no matter to those who call. -/
def BdAt (w : World) (X : Nat → Prop) (R nS nW : Nat) (B : Bd) : Prop := ∃ S W vc vs wk cg cc wv, Mb w X R S W nS nW vc vs wk cg cc wv B
/-- What Spread leaves. -/
def SprOut (w : World) (X : Nat → Prop) (R nS nW : Nat) (V : Int) (L : List (List Int)) (ch : Int → Prop) (B : Bd) (e : Ending) (w' : World) : Prop :=
  ∃ f B' X' nS' nW', e = .returned (.int .i64 f) ∧ BdAt w' X' R nS' nW' B' ∧ Fr X w w' X' ∧ nS' + B.sp.length ≤ nS + B'.sp.length ∧ nW' ≤ nW + 320100000000 ∧ B'.sp.length ≤ (2 * V + 1).toNat ∧ Spr V L ch B B' f
theorem Mb.stepAt {w : World} {X : Nat → Prop} {R S W nS nW : Nat} {vc vs : Value} {wk : Int} {cg cc : Nat → Nat} {wv : Int → Value} {B : Bd} (h : Mb w X R S W nS nW vc vs wk cg cc wv B) {j : Nat} (hj : j < B.sp.length) : ∃ g cap, vs = .slice (some ⟨g, 0, none⟩) B.sp.length cap ∧ w.cell? ⟨g, j * 3, none⟩ = some (.int .i64 B.sp[j].1) := by
  have hr := h.st
  rcases hr.2 with ⟨_, h0⟩ | ⟨g, cap, cur, e, _⟩
  · omega
  · refine ⟨g, cap, e, ?_⟩
    rw [e] at hr
    have := hr.cellAt (j * 3) (by show j * 3 < B.sp.length * 3; omega)
    rw [(flatS_at hj).1] at this
    exact this

set_option maxHeartbeats 4000000 in
theorem spread_any (w : World) (X : Nat → Prop) (R nS nW : Nat) (B : Bd) (hB : BdAt w X R nS nW B) (V : Int) (L : List (List Int)) (ch : Int → Prop) (hI : Inv V L ch B) (hV : V ≤ 200000) (hcl : B.cl.length ≤ 800000) (hnS : nS ≤ 10000000000000) (hnW : nW ≤ 800000000000000000) :
    Calls Try.prog 17 #[.pointer (some ⟨R, 0, none⟩)] w (SprOut w X R nS nW V L ch B) := by
  have HJ0 : Hid (BdAt w X R nS nW B ∧ Fr X w w X ∧ Spn V L ch B B) := ⟨hB, Fr.refl _ _, Spn.refl hI⟩
  clear hB hI
  go_enter Try.func17, Try.ntmps17
  go_wp2_with fail
  go_loopw [] (fun wr => ∃ (k : Nat), Hid (wr.cell? ⟨R, 7, none⟩ = some (.int .i64 k)) ∧ Hid (∃ B' X' nS' nW', BdAt wr X' R nS' nW' B' ∧ Fr X w wr X' ∧ Spn V L ch B B' ∧ B'.spread = k ∧ nS' + B.sp.length ≤ nS + B'.sp.length ∧ nW' + B.spread * 800001 ≤ nW + B'.spread * 800001)) (fun wr => 400002 - (intOf ((wr.cell? ⟨R, 7, none⟩).getD (.int .i64 0))).toNat)
  case atStart =>
    obtain ⟨hb, hf, hs⟩ := HJ0.out
    refine ⟨B.spread, ?_, B, X, nS, nW, hb, hf, hs, rfl, Nat.le_refl _, Nat.le_refl _⟩
    obtain ⟨S, W, vc, vs, wk, cg, cc, wv, hM⟩ := hb
    exact hM.c7
  case round =>
    obtain ⟨k, hck, HJ⟩ := hrel
    obtain ⟨B1, X1, nS1, nW1, hb1, hF1, hN1, hk1, hnS1, hnW1⟩ := HJ.out
    obtain ⟨S, W, vc, vs, wk, cg, cc, wv, hM1⟩ := hb1
    have hspl := hN1.inv.wf.spLen hV
    have hspr := hN1.inv.wf.sp
    have c7 := hM1.c7
    have c1 := hM1.c1
    rw [hk1] at c7
    have hkl : k ≤ B1.sp.length := by omega
    obtain ⟨ps, cs, hvs⟩ : ∃ p c, vs = .slice p B1.sp.length c := by
      rcases hM1.st.2 with ⟨e, e0⟩ | ⟨g, c, cur, e, _⟩
      · rw [e0]; exact ⟨_, _, e⟩
      · exact ⟨_, _, e⟩
    by_cases hlt : k < B1.sp.length
    · obtain ⟨g, cap, hvs', x0⟩ := hM1.stepAt hlt
      obtain ⟨n, hn⟩ : ∃ n, B1.sp[k].1 = n := ⟨_, rfl⟩
      rw [hn] at x0
      rw [hvs'] at c1
      have hst : B1.st[B1.spread]? = some n := by
        unfold Bd.st
        rw [List.getElem?_map, hk1, List.getElem?_eq_getElem hlt]
        simp [hn]
      have hsmn : Small n := (hN1.inv.wf.sr n (List.mem_of_getElem? hst)).small hV
      have hn1 := hsmn.1
      have hn2 := hsmn.2
      obtain ⟨D, hLI⟩ := li_of hN1.inv hst
      obtain ⟨B2, f, hlk⟩ : ∃ B2 f, ({ B1 with spread := B1.spread + 1 } : Bd).lookAt (-n) = (B2, f) := ⟨_, _, rfl⟩
      have HST := hide (hN1.step hst hlk)
      obtain ⟨m, hm⟩ : ∃ m, B1.sp.length = m := ⟨_, rfl⟩
      have hlti : (k : Int) < (m : Int) := by omega
      have hltm : k < m := by omega
      have hmm : m ≤ 400001 := by omega
      rw [hm] at c1
      have hcl1 : B1.cl.length ≤ 800000 := by rw [hN1.cl]; exact hcl
      have f7 := hM1.fz 7
      have HMD : Hid (Mb (wr.setCell ⟨R, 7, none⟩ (.int .i64 ((k : Int) + 1))).drew.drew X1 R S W nS1 nW1 vc vs wk cg cc wv { B1 with spread := B1.spread + 1 }) := by
        rw [hk1]
        exact (hM1.board (w1 := wr.setCell ⟨R, 7, none⟩ (.int .i64 ((k : Int) + 1))) ((Below.refl 0 _).setCell (Nat.zero_le _) _).size (fun g hg => Below.heap_setCell _ _ _ _ hg) B1.level B1.lost (k + 1) wk (by rw [heap_setCell_same _ _ _ _ _ _ hM1.bd]; rfl)).later ((Below.refl _ _).drew).drew
      have HFD : Hid (Fr X w (wr.setCell ⟨R, 7, none⟩ (.int .i64 ((k : Int) + 1))).drew.drew X1) := (hF1.trans (Fr.set (q := ⟨R, 7, none⟩) hM1.xr _)).trans (Fr.quiet ((Below.refl _ _).drew).drew)
      have HLA := hide (lookAt_any _ X1 R S W nS1 nW1 vc vs wk cg cc wv _ HMD.out V (-n) D ch hLI hV hsmn.neg hcl1 (by omega) (by omega))
      have HN := hide (And.intro hnS1 (And.intro hnW1 (And.intro hk1 hm)))
      have HLK := hide hlk
      have HSPR : Hid (B.spread ≤ k) := by unfold Hid; rw [← hk1]; exact hN1.spread
      clear hM1 hF1 hN1 hnS1 hnW1 hspl hspr HJ hvs hkl hk1 hm hlk hst hLI hcl1 hsmn hn hvs'
      go_upto_region 1 with fail
      go_region_held3 (fun w' => w'.cell? ⟨R, 7, none⟩ = some (.int .i64 k) ∧ w'.cell? ⟨R, 1, none⟩ = some (.slice (some ⟨g, 0, none⟩) m cap)) (first | exact ⟨c7, c1⟩ | go_keep) (fail)
      go_upto_region 2 with fail
      go_region_held3 (fun w' => w'.cell? ⟨R, 7, none⟩ = some (.int .i64 k) ∧ w'.cell? ⟨R, 1, none⟩ = some (.slice (some ⟨g, 0, none⟩) m cap) ∧ w'.cell? ⟨g, k * 3, none⟩ = some (.int .i64 n)) (first | exact ⟨c7, c1, x0⟩ | go_keep) (fail)
      go_upto_region 4 with fail
      generalize (wr.setCell ⟨R, 7, none⟩ (.int .i64 ((k : Int) + 1))).drew.drew = w2 at *
      clear c7 c1 x0 f7
      go_wp2_with fail
      refine HLA.out.mono ?_
      unfold LkOut
      rw [HLK.out]
      rintro e w3 ⟨rfl, X3, nS3, nW3, vs3, wk3, wv3, hM3, hF3, hnS3, hnW3⟩
      have HM3 := hide hM3
      have HF3 := hide (HFD.out.trans hF3)
      have HN3 := hide (And.intro hnS3 hnW3)
      clear hM3 hF3 hnS3 hnW3 HLA
      by_cases hf : f = -1
      · subst hf
        have c7' := HM3.out.c7
        rw [HST.out.1] at c7'
        have HC7 := hide c7'
        clear c7'
        go_wp2_with fail
        go_roundw
        case rel =>
          refine ⟨k + 1, ?_, B2, X3, nS3, nW3, ⟨_, _, _, _, _, _, _, _, HM3.out⟩, HF3.out, (by first | exact HST.out.2.1 rfl | exact HST.out.2.1 trivial), ?_, ?_, ?_⟩
          · have := HC7.out
            rw [HN.out.2.2.1] at this
            exact this
          · rw [HST.out.1, HN.out.2.2.1]
          · have := HN.out.1; have := HN3.out.1; omega
          · have h1 := HN.out.2.1; have h2 := HN3.out.2; have h3 := HST.out.1; omega
        case measure =>
          have h1 := HC7.out
          rw [HN.out.2.2.1] at h1
          have h2 := hck.out
          rw [h1, h2]
          simp [intOf]
          omega
      · have hfb : (f == -1) = false := by simpa using hf
        have HSP := hide (HST.out.2.2.1 hf)
        have HLV := hide HST.out.2.2.2
        have c2 := HM3.out.c2
        have c3 := HM3.out.c3
        have f3 := HM3.out.fz 3
        have HM4 : Hid (Mb (w3.setCell ⟨R, 3, none⟩ (.bool (B2.lost || decide (B2.level = 0)))) X3 R S W nS3 nW3 vc vs3 wk3 cg cc wv3 { B2 with lost := B2.lost || decide (B2.level = 0) }) :=
          HM3.out.board ((Below.refl 0 _).setCell (Nat.zero_le _) _).size (fun g hg => Below.heap_setCell _ _ _ _ hg) B2.level (B2.lost || decide (B2.level = 0)) B2.spread wk3 (by rw [heap_setCell_same _ _ _ _ _ _ HM3.out.bd]; rfl)
        have HF4 : Hid (Fr X w (w3.setCell ⟨R, 3, none⟩ (.bool (B2.lost || decide (B2.level = 0)))) X3) := HF3.out.trans (Fr.set (q := ⟨R, 3, none⟩) HM3.out.xr _)
        have HEND : Hid (∀ u, Mb u X3 R S W nS3 nW3 vc vs3 wk3 cg cc wv3 { B2 with lost := B2.lost || decide (B2.level = 0) } → Fr X w u X3 → SprOut w X R nS nW V L ch B (.returned (.int .i64 f)) u) := fun u h1 h2 => by
          refine ⟨f, _, X3, nS3, nW3, rfl, ⟨_, _, _, _, _, _, _, _, h1⟩, h2, ?_, ?_, HLV.out.2.2, HSP.out⟩
          · show nS3 + B.sp.length ≤ nS + B2.sp.length
            have h8 := HN.out.1
            have h9 : nS3 + B1.sp.length ≤ nS1 + B2.sp.length := HN3.out.1
            omega
          · have h3 := HN.out.2.1; have h4 := HN3.out.2; have h5 := HN.out.2.2.1; omega
        clear HST
        cases hlo : B2.lost
        · rw [hlo] at c3 HM4 HF4 HEND
          by_cases hlv : B2.level = 0
          · have hd : decide (B2.level = 0) = true := by simpa using hlv
            rw [hd] at HM4 HF4 HEND
            simp only [Bool.or_true] at HM4 HF4 HEND
            rw [hlv] at c2
            clear hd hlv
            go_wp2_with fail
            go_ret
            exact HEND.out _ HM4.out HF4.out
          · have hd : decide (B2.level = 0) = false := by simpa using hlv
            rw [hd] at HM4 HF4 HEND
            simp only [Bool.or_false] at HM4 HF4 HEND
            have hlvb : (B2.level == 0) = false := by simpa using hlv
            clear hd
            go_wp2_with fail
            go_ret
            exact HEND.out _ HM4.out HF4.out
        · rw [hlo] at c3 HM4 HF4 HEND
          simp only [Bool.true_or] at HM4 HF4 HEND
          go_wp2_with fail
          go_ret
          exact HEND.out _ HM4.out HF4.out
    · have HD := hide (hN1.done (by omega))
      have HE : Hid (SprOut w X R nS nW V L ch B (.returned (.int .i64 (-1))) wr.drew) := by
        refine ⟨-1, B1, X1, nS1, nW1, rfl, ⟨S, W, vc, vs, wk, cg, cc, wv, hM1.later (Below.refl _ wr).drew⟩, hF1.trans (Fr.quiet (Below.refl _ wr).drew), hnS1, ?_, ?_, HD.out⟩
        · omega
        · have := nodup_len hN1.inv.wf.sn hN1.inv.wf.sr
          rw [st_len] at this
          exact this
      rw [hvs] at c1
      obtain ⟨m, hm⟩ : ∃ m, B1.sp.length = m := ⟨_, rfl⟩
      have hlti : ¬ (k : Int) < (m : Int) := by omega
      rw [hm] at c1
      clear hM1 hF1 hN1 hnS1 hnW1 hspl hspr HJ HD hvs hkl hk1 hm
      go_upto_region 1 with fail
      go_region_held3 (fun w' => w'.cell? ⟨R, 7, none⟩ = some (.int .i64 k) ∧ w'.cell? ⟨R, 1, none⟩ = some (.slice ps m cs)) (first | exact ⟨c7, c1⟩ | go_keep) (fail)
      go_wp2_with fail
      go_ret
      exact HE.out
end Go.Proofs.Ytdlfjijfdibocaa.Pf
