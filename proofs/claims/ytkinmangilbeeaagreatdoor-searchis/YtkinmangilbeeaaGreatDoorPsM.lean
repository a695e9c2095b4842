/- Going on from what is so: lists alone. -/
import Derived.Test.YtkinmangilbeeaaGreatDoorPpM
import Derived.Test.YtkinmangilbeeaaGreatDoorPq
import Derived.Test.YtkinmangilbeeaaGreatDoorUhM
import Derived.Test.YtkinmangilbeeaaGreatDoorPm
namespace Go.Proofs.YtkinmangilbeeaaGreatDoor.Pf

theorem li_of {V : Int} {L : List (List Int)} {ch : Int → Prop} {B : Bd} (h : Inv V L ch B) {n : Int} (hn : B.st[B.spread]? = some n) : ∃ D, LI V (-n) D ch { B with spread := B.spread + 1 } [] (B.wt (-n)) := by
  have hnm : n ∈ B.st := List.mem_of_getElem? hn
  obtain ⟨hlt, hne⟩ := List.getElem?_eq_some_iff.1 hn
  have hlt' : B.spread < B.sp.length := by rw [← st_len]; exact hlt
  have hD : ∃ D, (B.lost = false → D = B.st.take B.spread) ∧ (∀ m ∈ D, m ∈ B.st) ∧ Cmp B D := by
    cases hl : B.lost
    · exact ⟨_, fun _ => rfl, fun m hm => List.mem_of_mem_take hm, h.cmp hl⟩
    · exact ⟨[], (fun e => by cases e), (fun m hm => by simp at hm), h.one⟩
  obtain ⟨D, hD1, hD2, hD3⟩ := hD
  refine ⟨D, ?_, by rw [Int.neg_neg]; exact hnm, ⟨hD3.one, hD3.dn, hD3.dz⟩, hD2, ⟨h.snd.st, h.snd.zs⟩, fun p hp => by simp at hp, h.le⟩
  simp only [List.nil_append, upd_self]
  exact ⟨h.wf.cl, h.wf.sn, h.wf.sc, h.wf.sr, hlt', h.wf.wi, h.wf.wd, h.wf.wa, h.wf.lv⟩
theorem look_cl (nt : Int) (rest : List (Nat × Int)) : ∀ (B : Bd) (kept : List (Nat × Int)), (look nt B kept rest).1.cl.length = B.cl.length := by
  induction rest with
  | nil => intro B kept; rfl
  | cons p rest ih =>
    obtain ⟨i, o⟩ := p
    intro B kept
    unfold look
    split
    · exact ih _ _
    · split
      · rw [ih]; simp
      · split
        · simp
        · split
          · rw [ih]; simp
          · rw [ih]; simp [Bd.put]
theorem lookAt_cl (B : Bd) (nt : Int) : (B.lookAt nt).1.cl.length = B.cl.length := look_cl nt _ B []
/-- Spread itself, in so many steps. -/
def spreadN : Nat → Bd → Option (Bd × Int)
  | 0, _ => none
  | g + 1, B => if B.spread < B.sp.length then
      (if (({ B with spread := B.spread + 1 } : Bd).lookAt (-(B.st.getD B.spread 0))).2 = -1 then spreadN g (({ B with spread := B.spread + 1 } : Bd).lookAt (-(B.st.getD B.spread 0))).1
        else some ({ (({ B with spread := B.spread + 1 } : Bd).lookAt (-(B.st.getD B.spread 0))).1 with lost := (({ B with spread := B.spread + 1 } : Bd).lookAt (-(B.st.getD B.spread 0))).1.lost || decide ((({ B with spread := B.spread + 1 } : Bd).lookAt (-(B.st.getD B.spread 0))).1.level = 0) }, (({ B with spread := B.spread + 1 } : Bd).lookAt (-(B.st.getD B.spread 0))).2))
    else some (B, -1)
theorem spread_mono : ∀ (g : Nat) (B : Bd) (r : Bd × Int), spreadN g B = some r → spreadN (g + 1) B = some r := by
  intro g
  induction g with
  | zero => intro B r h; cases h
  | succ g ih =>
    intro B r h
    rw [spreadN] at h ⊢
    split
    · rename_i h1
      rw [if_pos h1] at h
      split
      · rename_i h2
        rw [if_pos h2] at h
        exact ih _ _ h
      · rename_i h2
        rw [if_neg h2] at h
        exact h
    · rename_i h1
      rw [if_neg h1] at h
      exact h
theorem spread_more {g : Nat} {B : Bd} {r : Bd × Int} (h : spreadN g B = some r) (d : Nat) : spreadN (g + d) B = some r := by
  induction d with
  | zero => exact h
  | succ d ih => exact spread_mono _ _ _ ih
/-- There is one end to it. -/
theorem spread_one {g g' : Nat} {B : Bd} {r r' : Bd × Int} (h : spreadN g B = some r) (h' : spreadN g' B = some r') : r = r' := by
  have h1 := spread_more h g'
  have h2 := spread_more h' g
  rw [Nat.add_comm g' g, h1] at h2
  exact Option.some.inj h2
/-- What Spread makes of a board. -/
structure Spr (V : Int) (L : List (List Int)) (ch : Int → Prop) (B B' : Bd) (f : Int) : Prop where
  level : B'.level = B.level
  cl : B'.cl.length = B.cl.length
  ok : f = -1 → Inv V L ch B' ∧ B'.spread = B'.sp.length ∧ B'.lost = B.lost
  sp : ∃ t, B'.sp = B.sp ++ t
  bad : f ≠ -1 → (B.lost = false → Confl L ch) ∧ (0 < B.level → Inw V L ch B' ∧ B'.lost = B.lost) ∧ (B.level = 0 → Inv V L ch B' ∧ B'.lost = true)
  ex : ∃ g, spreadN g B = some (B', f)
/-- Between two steps of Spread. -/
structure Spn (V : Int) (L : List (List Int)) (ch : Int → Prop) (B B' : Bd) : Prop where
  level : B'.level = B.level
  cl : B'.cl.length = B.cl.length
  lost : B'.lost = B.lost
  inv : Inv V L ch B'
  spread : B.spread ≤ B'.spread
  sp : ∃ t, B'.sp = B.sp ++ t
  ex : ∀ g r, spreadN g B' = some r → ∃ g', spreadN g' B = some r
theorem Spn.refl {V : Int} {L : List (List Int)} {ch : Int → Prop} {B : Bd} (h : Inv V L ch B) : Spn V L ch B B := ⟨rfl, rfl, rfl, h, Nat.le_refl _, ⟨[], by simp⟩, fun g r e => ⟨g, e⟩⟩
section
variable {V : Int} {L : List (List Int)} {ch : Int → Prop} {B B' : Bd}
theorem Spn.done (h : Spn V L ch B B') (hs : ¬ B'.spread < B'.sp.length) : Spr V L ch B B' (-1) := ⟨h.level, h.cl, fun _ => ⟨h.inv, by have := h.inv.wf.sp; omega, h.lost⟩, h.sp, fun e => absurd rfl e, h.ex 1 _ (by rw [spreadN, if_neg hs])⟩
theorem Spn.step (h : Spn V L ch B B') {n : Int} (hn : B'.st[B'.spread]? = some n) {B2 : Bd} {f : Int} (e : ({ B' with spread := B'.spread + 1 } : Bd).lookAt (-n) = (B2, f)) :
    B2.spread = B'.spread + 1 ∧ (f = -1 → Spn V L ch B B2) ∧ (f ≠ -1 → Spr V L ch B { B2 with lost := B2.lost || decide (B2.level = 0) } f) ∧ B2.level = B.level ∧ 0 ≤ B2.level ∧ B2.sp.length ≤ (2 * V + 1).toNat := by
  have hs := step_ok h.inv hn
  have hc := lookAt_cl { B' with spread := B'.spread + 1 } (-n)
  rw [e] at hs hc
  simp only at hs hc
  have hlv : B2.level = B.level := hs.level.trans h.level
  have h0 : 0 ≤ B2.level := by rw [hlv, ← h.level]; exact h.inv.le
  have hl := nodup_len hs.wf.sn hs.wf.sr
  rw [st_len] at hl
  have hsp : ∃ t, B2.sp = B.sp ++ t := by
    obtain ⟨t, h1⟩ := h.sp
    obtain ⟨u, h2⟩ := hs.sp
    exact ⟨t ++ u, by rw [h2, h1, List.append_assoc]⟩
  have hlt : B'.spread < B'.sp.length := by
    have := (List.getElem?_eq_some_iff.1 hn).1
    rw [st_len] at this
    exact this
  have hgn : B'.st.getD B'.spread 0 = n := by rw [List.getD_eq_getElem?_getD, hn]; rfl
  refine ⟨hs.spread, fun ef => ⟨hlv, hc.trans h.cl, hs.lost.trans h.lost, hs.ok ef, by rw [hs.spread]; have := h.spread; omega, hsp, fun g r e3 => h.ex (g + 1) r (by rw [spreadN, if_pos hlt, hgn, e, if_pos ef]; exact e3)⟩, fun ef => ?_, hlv, h0, hl⟩
  obtain ⟨_, b1, b2, b3⟩ := hs.bad ef
  refine ⟨hlv, hc.trans h.cl, fun e1 => absurd e1 ef, hsp, fun _ => ⟨fun e1 => b1 (h.lost.trans e1), fun e1 => ?_, fun e1 => ?_⟩, h.ex 1 _ (by rw [spreadN, if_pos hlt, hgn, e, if_neg ef])⟩
  · have hd : decide (B2.level = 0) = false := by simp; omega
    have : ({ B2 with lost := B2.lost || decide (B2.level = 0) } : Bd) = B2 := by rw [hd, Bool.or_false]
    rw [this]
    exact ⟨b2 (by rw [h.level]; exact e1), hs.lost.trans h.lost⟩
  · have hd : decide (B2.level = 0) = true := by simp; omega
    rw [hd, Bool.or_true]
    exact ⟨b3 (by rw [h.level]; exact e1), rfl⟩
end
/-- A board that is taken back to level 0. -/
theorem back_fin {V : Int} {L : List (List Int)} {ch : Int → Prop} {B : Bd} (h : (Inv V L ch B ∧ (B.level = 0 → ch = fun _ => False)) ∨ (Inw V L ch B ∧ 0 < B.level)) (hs : B.level = 0 → B.lost = false → B.spread = B.sp.length) :
    Inv V L (fun _ => False) B.back ∧ B.back.level = 0 ∧ (B.back.lost = false → B.back.spread = B.back.sp.length) := by
  rcases h with ⟨h, h0⟩ | ⟨h, hl⟩
  · by_cases hl : B.level = 0
    · obtain rfl := h0 hl
      rw [back_id h hl]
      exact ⟨h, hl, hs hl⟩
    · obtain ⟨b1, b2⟩ := back_ok (inw_of h (by have := h.le; omega))
      exact ⟨b1, rfl, fun _ => b2⟩
  · obtain ⟨b1, b2⟩ := back_ok h
    exact ⟨b1, rfl, fun _ => b2⟩
theorem back_zp {V : Int} {L : List (List Int)} {ch : Int → Prop} {B : Bd} (h : (Inv V L ch B ∧ (B.level = 0 → ch = fun _ => False)) ∨ (Inw V L ch B ∧ 0 < B.level)) :
    Wf V B ∧ ∃ k, k ≤ B.sp.length ∧ (∀ s ∈ B.sp.take k, s.2.1 = 0) ∧ (∀ s ∈ B.sp.drop k, 0 < s.2.1) := by
  rcases h with ⟨h, _⟩ | ⟨h, _⟩
  · obtain ⟨k, h1, h2, h3, _⟩ := h.zp
    exact ⟨h.wf, k, h1, h2, h3⟩
  · obtain ⟨k, h1, h2, h3, _⟩ := h.zp
    exact ⟨h.wf, k, h1, h2, h3⟩
/-- While a clause's numbers are laid down as not so. -/
structure Fol (V : Int) (L : List (List Int)) (c : List Int) (k : Nat) (B B1 : Bd) (ch : Int → Prop) : Prop where
  inv : Inv V L ch B1
  chn : ∀ n, ch n → negs c n
  ch0 : B1.level = 0 → ch = fun _ => False
  sp0 : B1.level = 0 → B1.spread = B1.sp.length
  not : ∀ j (h : j < c.length), j < k → -c[j] ∈ B1.st
  lost : B1.lost = B.lost
  cl : B1.cl.length = B.cl.length
  lv : B1.level ≤ k
theorem Fol.zero {V : Int} {L : List (List Int)} {c : List Int} {B : Bd} (h : Inv V L (fun _ => False) B) (h0 : B.level = 0) (hs : B.spread = B.sp.length) : Fol V L c 0 B B (fun _ => False) :=
  ⟨h, fun _ e => e.elim, fun _ => rfl, fun _ => hs, fun j _ hj => by omega, rfl, rfl, by omega⟩
section
variable {V : Int} {L : List (List Int)} {c : List Int} {k : Nat} {B B1 : Bd} {ch : Int → Prop}
theorem Fol.skip (h : Fol V L c k B B1 ch) (hk : k < c.length) (hn : -c[k] ∈ B1.st) : Fol V L c (k + 1) B B1 ch :=
  ⟨h.inv, h.chn, h.ch0, h.sp0, fun j hj hjk => by
    by_cases e : j = k
    · subst e; exact hn
    · exact h.not j hj (by omega), h.lost, h.cl, by have := h.lv; omega⟩
theorem Fol.choose (h : Fol V L c k B B1 ch) (hk : k < c.length) (hx : Num V c[k]) (h1 : c[k] ∉ B1.st) (h2 : -c[k] ∉ B1.st) : Fol V L c (k + 1) B (B1.choose (-c[k])) (fun x => ch x ∨ x = -c[k]) := by
  have hlv : (B1.choose (-c[k])).level = B1.level + 1 := rfl
  refine ⟨choose_ok h.inv hx.neg h2 (by rw [Int.neg_neg]; exact h1) h.sp0, fun n hn => ?_, fun e => by have := h.inv.le; omega, fun e => by have := h.inv.le; omega, fun j hj hjk => ?_, h.lost, h.cl, by have := h.lv; omega⟩
  · rcases hn with hn | rfl
    · exact h.chn n hn
    · exact ⟨c[k], List.getElem_mem hk, rfl⟩
  · rw [choose_st]
    by_cases e : j = k
    · subst e; simp
    · simp [h.not j hj (by omega)]
theorem Fol.so (h : Fol V L c k B B1 ch) (hl : B.lost = false) (hk : k < c.length) (hs : c[k] ∈ B1.st) : Confl L (negs c) := follow_so h.inv (h.lost.trans hl) h.chn (List.getElem_mem hk) hs
/-- What Spread tells of it. -/
theorem Fol.spr (h : Fol V L c k B B1 ch) (hk : c.length ≤ k) (hl : B.lost = false) {B2 : Bd} {f : Int} (hs : Spr V L ch B1 B2 f) :
    (f ≠ -1 ↔ Confl L (negs c)) ∧ ((Inv V L ch B2 ∧ (B2.level = 0 → ch = fun _ => False)) ∨ (Inw V L ch B2 ∧ 0 < B2.level)) ∧ (B2.level = 0 → B2.lost = false → B2.spread = B2.sp.length) := by
  obtain ⟨t, ht⟩ := hs.sp
  by_cases hf : f = -1
  · obtain ⟨a1, a2, a3⟩ := hs.ok hf
    refine ⟨⟨fun e => absurd hf e, fun hc => absurd hc ?_⟩, .inl ⟨a1, fun e => h.ch0 (hs.level.symm.trans e)⟩, fun _ _ => a2⟩
    refine follow_no a1 (a3.trans (h.lost.trans hl)) a2 fun m hm => ?_
    obtain ⟨j, hj, rfl⟩ := List.getElem_of_mem hm
    have := h.not j hj (by omega)
    rw [st_ext ht]
    exact List.mem_append.2 (.inl this)
  · obtain ⟨b1, b2, b3⟩ := hs.bad hf
    refine ⟨⟨fun _ => (b1 (h.lost.trans hl)).mono h.chn, fun _ => hf⟩, ?_, fun e e2 => ?_⟩
    · by_cases hl0 : B1.level = 0
      · exact .inl ⟨(b3 hl0).1, fun _ => h.ch0 hl0⟩
      · have hp : 0 < B1.level := by have := h.inv.le; omega
        exact .inr ⟨(b2 hp).1, by rw [hs.level]; exact hp⟩
    · rw [(b3 (hs.level.symm.trans e)).2] at e2; cases e2
end
end Go.Proofs.YtkinmangilbeeaaGreatDoor.Pf

namespace Go.Proofs.YtkinmangilbeeaaGreatDoor.Pf
open Go.RowKit Go.Maps Go.WideMaps
set_option maxRecDepth 100000

/-- A board lies at R; what of it is of no matter to those who call. -/
def BdAt (w : World) (X : Nat → Prop) (R nS nW : Nat) (B : Bd) : Prop := ∃ S W vc vs wk cg cc wv, Mb w X R S W nS nW vc vs wk cg cc wv B
/-- What Spread leaves. -/
def SprOut (w : World) (X : Nat → Prop) (R nS nW : Nat) (V : Int) (L : List (List Int)) (ch : Int → Prop) (B : Bd) (e : Ending) (w' : World) : Prop :=
  ∃ f B' X' nS' nW', e = .returned (.int .i64 f) ∧ BdAt w' X' R nS' nW' B' ∧ Fr X w w' X' ∧ nS' + B.sp.length ≤ nS + B'.sp.length ∧ nW' ≤ nW + 320100000000 ∧ B'.sp.length ≤ (2 * V + 1).toNat ∧ Spr V L ch B B' f
theorem Mb.stepAt {w : World} {X : Nat → Prop} {R S W nS nW : Nat} {vc vs : Value} {wk : Int} {cg cc : Nat → Nat} {wv : Int → Value} {B : Bd} (h : Mb w X R S W nS nW vc vs wk cg cc wv B) {j : Nat} (hj : j < B.sp.length) : ∃ g cap, vs = .slice (some ⟨g, 0, none⟩) B.sp.length cap ∧ w.cell? ⟨g, j * 3, none⟩ = some (.int .i64 B.sp[j].1) := by
  have hr := h.st
  rcases hr.2 with ⟨_, h0⟩ | ⟨g, cap, cur, e, _⟩
  · omega
  · refine ⟨g, cap, e, ?_⟩
    rw [e] at hr
    have := hr.cellAt (j * 3) (by show j * 3 < B.sp.length * 3; omega)
    rw [(flatS_at hj).1] at this
    exact this

set_option maxHeartbeats 4000000 in
theorem spread_any (w : World) (X : Nat → Prop) (R nS nW : Nat) (B : Bd) (hB : BdAt w X R nS nW B) (V : Int) (L : List (List Int)) (ch : Int → Prop) (hI : Inv V L ch B) (hV : V ≤ 200000) (hcl : B.cl.length ≤ 800000) (hnS : nS ≤ 10000000000000) (hnW : nW ≤ 800000000000000000) :
    Calls Tryz.prog 27 #[.pointer (some ⟨R, 0, none⟩)] w (SprOut w X R nS nW V L ch B) := by
  have HJ0 : Hid (BdAt w X R nS nW B ∧ Fr X w w X ∧ Spn V L ch B B) := ⟨hB, Fr.refl _ _, Spn.refl hI⟩
  clear hB hI
  go_enter Tryz.func27, Tryz.ntmps27
  go_wp2_with fail
  go_loopw [] (fun wr => ∃ (k : Nat), Hid (wr.cell? ⟨R, 7, none⟩ = some (.int .i64 k)) ∧ Hid (∃ B' X' nS' nW', BdAt wr X' R nS' nW' B' ∧ Fr X w wr X' ∧ Spn V L ch B B' ∧ B'.spread = k ∧ nS' + B.sp.length ≤ nS + B'.sp.length ∧ nW' + B.spread * 800001 ≤ nW + B'.spread * 800001)) (fun wr => 400002 - (intOf ((wr.cell? ⟨R, 7, none⟩).getD (.int .i64 0))).toNat)
  case atStart =>
    obtain ⟨hb, hf, hs⟩ := HJ0.out
    refine ⟨B.spread, ?_, B, X, nS, nW, hb, hf, hs, rfl, Nat.le_refl _, Nat.le_refl _⟩
    obtain ⟨S, W, vc, vs, wk, cg, cc, wv, hM⟩ := hb
    exact hM.c7
  case round =>
    obtain ⟨k, hck, HJ⟩ := hrel
    obtain ⟨B1, X1, nS1, nW1, hb1, hF1, hN1, hk1, hnS1, hnW1⟩ := HJ.out
    obtain ⟨S, W, vc, vs, wk, cg, cc, wv, hM1⟩ := hb1
    have hspl := hN1.inv.wf.spLen hV
    have hspr := hN1.inv.wf.sp
    have c7 := hM1.c7
    have c1 := hM1.c1
    rw [hk1] at c7
    have hkl : k ≤ B1.sp.length := by omega
    obtain ⟨ps, cs, hvs⟩ : ∃ p c, vs = .slice p B1.sp.length c := by
      rcases hM1.st.2 with ⟨e, e0⟩ | ⟨g, c, cur, e, _⟩
      · rw [e0]; exact ⟨_, _, e⟩
      · exact ⟨_, _, e⟩
    by_cases hlt : k < B1.sp.length
    · obtain ⟨g, cap, hvs', x0⟩ := hM1.stepAt hlt
      obtain ⟨n, hn⟩ : ∃ n, B1.sp[k].1 = n := ⟨_, rfl⟩
      rw [hn] at x0
      rw [hvs'] at c1
      have hst : B1.st[B1.spread]? = some n := by
        unfold Bd.st
        rw [List.getElem?_map, hk1, List.getElem?_eq_getElem hlt]
        simp [hn]
      have hsmn : Small n := (hN1.inv.wf.sr n (List.mem_of_getElem? hst)).small hV
      have hn1 := hsmn.1
      have hn2 := hsmn.2
      obtain ⟨D, hLI⟩ := li_of hN1.inv hst
      obtain ⟨B2, f, hlk⟩ : ∃ B2 f, ({ B1 with spread := B1.spread + 1 } : Bd).lookAt (-n) = (B2, f) := ⟨_, _, rfl⟩
      have HST := hide (hN1.step hst hlk)
      obtain ⟨m, hm⟩ : ∃ m, B1.sp.length = m := ⟨_, rfl⟩
      have hlti : (k : Int) < (m : Int) := by omega
      have hltm : k < m := by omega
      have hmm : m ≤ 400001 := by omega
      rw [hm] at c1
      have hcl1 : B1.cl.length ≤ 800000 := by rw [hN1.cl]; exact hcl
      have f7 := hM1.fz 7
      have HMD : Hid (Mb (wr.setCell ⟨R, 7, none⟩ (.int .i64 ((k : Int) + 1))).drew.drew X1 R S W nS1 nW1 vc vs wk cg cc wv { B1 with spread := B1.spread + 1 }) := by
        rw [hk1]
        exact (hM1.board (w1 := wr.setCell ⟨R, 7, none⟩ (.int .i64 ((k : Int) + 1))) ((Below.refl 0 _).setCell (Nat.zero_le _) _).size (fun g hg => Below.heap_setCell _ _ _ _ hg) B1.level B1.lost (k + 1) wk (by rw [heap_setCell_same _ _ _ _ _ _ hM1.bd]; rfl)).later ((Below.refl _ _).drew).drew
      have HFD : Hid (Fr X w (wr.setCell ⟨R, 7, none⟩ (.int .i64 ((k : Int) + 1))).drew.drew X1) := (hF1.trans (Fr.set (q := ⟨R, 7, none⟩) hM1.xr _)).trans (Fr.quiet ((Below.refl _ _).drew).drew)
      have HLA := hide (lookAt_any _ X1 R S W nS1 nW1 vc vs wk cg cc wv _ HMD.out V (-n) D ch hLI hV hsmn.neg hcl1 (by omega) (by omega))
      have HN := hide (And.intro hnS1 (And.intro hnW1 (And.intro hk1 hm)))
      have HLK := hide hlk
      have HSPR : Hid (B.spread ≤ k) := by unfold Hid; rw [← hk1]; exact hN1.spread
      clear hM1 hF1 hN1 hnS1 hnW1 hspl hspr HJ hvs hkl hk1 hm hlk hst hLI hcl1 hsmn hn hvs'
      go_upto_region 1 with fail
      go_region_held3 (fun w' => w'.cell? ⟨R, 7, none⟩ = some (.int .i64 k) ∧ w'.cell? ⟨R, 1, none⟩ = some (.slice (some ⟨g, 0, none⟩) m cap)) (first | exact ⟨c7, c1⟩ | go_keep) (fail)
      go_upto_region 2 with fail
      go_region_held3 (fun w' => w'.cell? ⟨R, 7, none⟩ = some (.int .i64 k) ∧ w'.cell? ⟨R, 1, none⟩ = some (.slice (some ⟨g, 0, none⟩) m cap) ∧ w'.cell? ⟨g, k * 3, none⟩ = some (.int .i64 n)) (first | exact ⟨c7, c1, x0⟩ | go_keep) (fail)
      go_upto_region 4 with fail
      generalize (wr.setCell ⟨R, 7, none⟩ (.int .i64 ((k : Int) + 1))).drew.drew = w2 at *
      clear c7 c1 x0 f7
      go_wp2_with fail
      refine HLA.out.mono ?_
      unfold LkOut
      rw [HLK.out]
      rintro e w3 ⟨rfl, X3, nS3, nW3, vs3, wk3, wv3, hM3, hF3, hnS3, hnW3⟩
      have HM3 := hide hM3
      have HF3 := hide (HFD.out.trans hF3)
      have HN3 := hide (And.intro hnS3 hnW3)
      clear hM3 hF3 hnS3 hnW3 HLA
      by_cases hf : f = -1
      · subst hf
        have c7' := HM3.out.c7
        rw [HST.out.1] at c7'
        have HC7 := hide c7'
        clear c7'
        go_wp2_with fail
        go_roundw
        case rel =>
          refine ⟨k + 1, ?_, B2, X3, nS3, nW3, ⟨_, _, _, _, _, _, _, _, HM3.out⟩, HF3.out, (by first | exact HST.out.2.1 rfl | exact HST.out.2.1 trivial), ?_, ?_, ?_⟩
          · have := HC7.out
            rw [HN.out.2.2.1] at this
            exact this
          · rw [HST.out.1, HN.out.2.2.1]
          · have := HN.out.1; have := HN3.out.1; omega
          · have h1 := HN.out.2.1; have h2 := HN3.out.2; have h3 := HST.out.1; omega
        case measure =>
          have h1 := HC7.out
          rw [HN.out.2.2.1] at h1
          have h2 := hck.out
          rw [h1, h2]
          simp [intOf]
          omega
      · have hfb : (f == -1) = false := by simpa using hf
        have HSP := hide (HST.out.2.2.1 hf)
        have HLV := hide HST.out.2.2.2
        have c2 := HM3.out.c2
        have c3 := HM3.out.c3
        have f3 := HM3.out.fz 3
        have HM4 : Hid (Mb (w3.setCell ⟨R, 3, none⟩ (.bool (B2.lost || decide (B2.level = 0)))) X3 R S W nS3 nW3 vc vs3 wk3 cg cc wv3 { B2 with lost := B2.lost || decide (B2.level = 0) }) :=
          HM3.out.board ((Below.refl 0 _).setCell (Nat.zero_le _) _).size (fun g hg => Below.heap_setCell _ _ _ _ hg) B2.level (B2.lost || decide (B2.level = 0)) B2.spread wk3 (by rw [heap_setCell_same _ _ _ _ _ _ HM3.out.bd]; rfl)
        have HF4 : Hid (Fr X w (w3.setCell ⟨R, 3, none⟩ (.bool (B2.lost || decide (B2.level = 0)))) X3) := HF3.out.trans (Fr.set (q := ⟨R, 3, none⟩) HM3.out.xr _)
        have HEND : Hid (∀ u, Mb u X3 R S W nS3 nW3 vc vs3 wk3 cg cc wv3 { B2 with lost := B2.lost || decide (B2.level = 0) } → Fr X w u X3 → SprOut w X R nS nW V L ch B (.returned (.int .i64 f)) u) := fun u h1 h2 => by
          refine ⟨f, _, X3, nS3, nW3, rfl, ⟨_, _, _, _, _, _, _, _, h1⟩, h2, ?_, ?_, HLV.out.2.2, HSP.out⟩
          · show nS3 + B.sp.length ≤ nS + B2.sp.length
            have h8 := HN.out.1
            have h9 : nS3 + B1.sp.length ≤ nS1 + B2.sp.length := HN3.out.1
            omega
          · have h3 := HN.out.2.1; have h4 := HN3.out.2; have h5 := HN.out.2.2.1; omega
        clear HST
        cases hlo : B2.lost
        · rw [hlo] at c3 HM4 HF4 HEND
          by_cases hlv : B2.level = 0
          · have hd : decide (B2.level = 0) = true := by simpa using hlv
            rw [hd] at HM4 HF4 HEND
            simp only [Bool.or_true] at HM4 HF4 HEND
            rw [hlv] at c2
            clear hd hlv
            go_wp2_with fail
            go_ret
            exact HEND.out _ HM4.out HF4.out
          · have hd : decide (B2.level = 0) = false := by simpa using hlv
            rw [hd] at HM4 HF4 HEND
            simp only [Bool.or_false] at HM4 HF4 HEND
            have hlvb : (B2.level == 0) = false := by simpa using hlv
            clear hd
            go_wp2_with fail
            go_ret
            exact HEND.out _ HM4.out HF4.out
        · rw [hlo] at c3 HM4 HF4 HEND
          simp only [Bool.true_or] at HM4 HF4 HEND
          go_wp2_with fail
          go_ret
          exact HEND.out _ HM4.out HF4.out
    · have HD := hide (hN1.done (by omega))
      have HE : Hid (SprOut w X R nS nW V L ch B (.returned (.int .i64 (-1))) wr.drew) := by
        refine ⟨-1, B1, X1, nS1, nW1, rfl, ⟨S, W, vc, vs, wk, cg, cc, wv, hM1.later (Below.refl _ wr).drew⟩, hF1.trans (Fr.quiet (Below.refl _ wr).drew), hnS1, ?_, ?_, HD.out⟩
        · omega
        · have := nodup_len hN1.inv.wf.sn hN1.inv.wf.sr
          rw [st_len] at this
          exact this
      rw [hvs] at c1
      obtain ⟨m, hm⟩ : ∃ m, B1.sp.length = m := ⟨_, rfl⟩
      have hlti : ¬ (k : Int) < (m : Int) := by omega
      rw [hm] at c1
      clear hM1 hF1 hN1 hnS1 hnW1 hspl hspr HJ HD hvs hkl hk1 hm
      go_upto_region 1 with fail
      go_region_held3 (fun w' => w'.cell? ⟨R, 7, none⟩ = some (.int .i64 k) ∧ w'.cell? ⟨R, 1, none⟩ = some (.slice ps m cs)) (first | exact ⟨c7, c1⟩ | go_keep) (fail)
      go_wp2_with fail
      go_ret
      exact HE.out
end Go.Proofs.YtkinmangilbeeaaGreatDoor.Pf
