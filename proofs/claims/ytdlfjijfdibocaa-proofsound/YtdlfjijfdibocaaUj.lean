/- Going on from what is so: lists alone. -/
import Derived.Test.YtdlfjijfdibocaaUi
namespace Go.Proofs.Ytdlfjijfdibocaa.Pf

theorem li_of {V : Int} {L : List (List Int)} {ch : Int → Prop} {B : Bd} (h : Inv V L ch B) {n : Int} (hn : B.st[B.spread]? = some n) : ∃ D, LI V (-n) D ch { B with spread := B.spread + 1 } [] (B.wt (-n)) := by
  have hnm : n ∈ B.st := List.mem_of_getElem? hn
  obtain ⟨hlt, hne⟩ := List.getElem?_eq_some_iff.1 hn
  have hlt' : B.spread < B.sp.length := by rw [← st_len]; exact hlt
  have hD : ∃ D, (B.lost = false → D = B.st.take B.spread) ∧ (∀ m ∈ D, m ∈ B.st) ∧ Cmp B D := by
    cases hl : B.lost
    · exact ⟨_, fun _ => rfl, fun m hm => List.mem_of_mem_take hm, h.cmp hl⟩
    · exact ⟨[], (fun e => by cases e), (fun m hm => by simp at hm), h.one⟩
  obtain ⟨D, hD1, hD2, hD3⟩ := hD
  refine ⟨D, ?_, by rw [Int.neg_neg]; exact hnm, ⟨hD3.one, hD3.dn, hD3.dz⟩, hD2, ⟨h.snd.st, h.snd.zs⟩, fun p hp => by simp at hp, h.le⟩
  simp only [List.nil_append, upd_self]
  exact ⟨h.wf.cl, h.wf.sn, h.wf.sc, h.wf.sr, hlt', h.wf.wi, h.wf.wd, h.wf.wa, h.wf.lv⟩
theorem look_cl (nt : Int) (rest : List (Nat × Int)) : ∀ (B : Bd) (kept : List (Nat × Int)), (look nt B kept rest).1.cl.length = B.cl.length := by
  induction rest with
  | nil => intro B kept; rfl
  | cons p rest ih =>
    obtain ⟨i, o⟩ := p
    intro B kept
    unfold look
    split
    · exact ih _ _
    · split
      · rw [ih]; simp
      · split
        · simp
        · split
          · rw [ih]; simp
          · rw [ih]; simp [Bd.put]
theorem lookAt_cl (B : Bd) (nt : Int) : (B.lookAt nt).1.cl.length = B.cl.length := look_cl nt _ B []
/-- What Spread makes of a board. -/
structure Spr (V : Int) (L : List (List Int)) (ch : Int → Prop) (B B' : Bd) (f : Int) : Prop where
  level : B'.level = B.level
  cl : B'.cl.length = B.cl.length
  ok : f = -1 → Inv V L ch B' ∧ B'.spread = B'.sp.length ∧ B'.lost = B.lost
  sp : ∃ t, B'.sp = B.sp ++ t
  bad : f ≠ -1 → (B.lost = false → Confl L ch) ∧ (0 < B.level → Inw V L ch B' ∧ B'.lost = B.lost) ∧ (B.level = 0 → Inv V L ch B' ∧ B'.lost = true)
/-- Between two steps of Spread. -/
structure Spn (V : Int) (L : List (List Int)) (ch : Int → Prop) (B B' : Bd) : Prop where
  level : B'.level = B.level
  cl : B'.cl.length = B.cl.length
  lost : B'.lost = B.lost
  inv : Inv V L ch B'
  spread : B.spread ≤ B'.spread
  sp : ∃ t, B'.sp = B.sp ++ t
theorem Spn.refl {V : Int} {L : List (List Int)} {ch : Int → Prop} {B : Bd} (h : Inv V L ch B) : Spn V L ch B B := ⟨rfl, rfl, rfl, h, Nat.le_refl _, [], by simp⟩
section
variable {V : Int} {L : List (List Int)} {ch : Int → Prop} {B B' : Bd}
theorem Spn.done (h : Spn V L ch B B') (hs : ¬ B'.spread < B'.sp.length) : Spr V L ch B B' (-1) := ⟨h.level, h.cl, fun _ => ⟨h.inv, by have := h.inv.wf.sp; omega, h.lost⟩, h.sp, fun e => absurd rfl e⟩
theorem Spn.step (h : Spn V L ch B B') {n : Int} (hn : B'.st[B'.spread]? = some n) {B2 : Bd} {f : Int} (e : ({ B' with spread := B'.spread + 1 } : Bd).lookAt (-n) = (B2, f)) :
    B2.spread = B'.spread + 1 ∧ (f = -1 → Spn V L ch B B2) ∧ (f ≠ -1 → Spr V L ch B { B2 with lost := B2.lost || decide (B2.level = 0) } f) ∧ B2.level = B.level ∧ 0 ≤ B2.level ∧ B2.sp.length ≤ (2 * V + 1).toNat := by
  have hs := step_ok h.inv hn
  have hc := lookAt_cl { B' with spread := B'.spread + 1 } (-n)
  rw [e] at hs hc
  simp only at hs hc
  have hlv : B2.level = B.level := hs.level.trans h.level
  have h0 : 0 ≤ B2.level := by rw [hlv, ← h.level]; exact h.inv.le
  have hl := nodup_len hs.wf.sn hs.wf.sr
  rw [st_len] at hl
  have hsp : ∃ t, B2.sp = B.sp ++ t := by
    obtain ⟨t, h1⟩ := h.sp
    obtain ⟨u, h2⟩ := hs.sp
    exact ⟨t ++ u, by rw [h2, h1, List.append_assoc]⟩
  refine ⟨hs.spread, fun ef => ⟨hlv, hc.trans h.cl, hs.lost.trans h.lost, hs.ok ef, by rw [hs.spread]; have := h.spread; omega, hsp⟩, fun ef => ?_, hlv, h0, hl⟩
  obtain ⟨_, b1, b2, b3⟩ := hs.bad ef
  refine ⟨hlv, hc.trans h.cl, fun e1 => absurd e1 ef, hsp, fun _ => ⟨fun e1 => b1 (h.lost.trans e1), fun e1 => ?_, fun e1 => ?_⟩⟩
  · have hd : decide (B2.level = 0) = false := by simp; omega
    have : ({ B2 with lost := B2.lost || decide (B2.level = 0) } : Bd) = B2 := by rw [hd, Bool.or_false]
    rw [this]
    exact ⟨b2 (by rw [h.level]; exact e1), hs.lost.trans h.lost⟩
  · have hd : decide (B2.level = 0) = true := by simp; omega
    rw [hd, Bool.or_true]
    exact ⟨b3 (by rw [h.level]; exact e1), rfl⟩
end
/-- A board that is taken back to level 0. -/
theorem back_fin {V : Int} {L : List (List Int)} {ch : Int → Prop} {B : Bd} (h : (Inv V L ch B ∧ (B.level = 0 → ch = fun _ => False)) ∨ (Inw V L ch B ∧ 0 < B.level)) (hs : B.level = 0 → B.lost = false → B.spread = B.sp.length) :
    Inv V L (fun _ => False) B.back ∧ B.back.level = 0 ∧ (B.back.lost = false → B.back.spread = B.back.sp.length) := by
  rcases h with ⟨h, h0⟩ | ⟨h, hl⟩
  · by_cases hl : B.level = 0
    · obtain rfl := h0 hl
      rw [back_id h hl]
      exact ⟨h, hl, hs hl⟩
    · obtain ⟨b1, b2⟩ := back_ok (inw_of h (by have := h.le; omega))
      exact ⟨b1, rfl, fun _ => b2⟩
  · obtain ⟨b1, b2⟩ := back_ok h
    exact ⟨b1, rfl, fun _ => b2⟩
theorem back_zp {V : Int} {L : List (List Int)} {ch : Int → Prop} {B : Bd} (h : (Inv V L ch B ∧ (B.level = 0 → ch = fun _ => False)) ∨ (Inw V L ch B ∧ 0 < B.level)) :
    Wf V B ∧ ∃ k, k ≤ B.sp.length ∧ (∀ s ∈ B.sp.take k, s.2.1 = 0) ∧ (∀ s ∈ B.sp.drop k, 0 < s.2.1) := by
  rcases h with ⟨h, _⟩ | ⟨h, _⟩
  · obtain ⟨k, h1, h2, h3, _⟩ := h.zp
    exact ⟨h.wf, k, h1, h2, h3⟩
  · obtain ⟨k, h1, h2, h3, _⟩ := h.zp
    exact ⟨h.wf, k, h1, h2, h3⟩
/-- While a clause's numbers are laid down as not so. -/
structure Fol (V : Int) (L : List (List Int)) (c : List Int) (k : Nat) (B B1 : Bd) (ch : Int → Prop) : Prop where
  inv : Inv V L ch B1
  chn : ∀ n, ch n → negs c n
  ch0 : B1.level = 0 → ch = fun _ => False
  sp0 : B1.level = 0 → B1.spread = B1.sp.length
  not : ∀ j (h : j < c.length), j < k → -c[j] ∈ B1.st
  lost : B1.lost = B.lost
  cl : B1.cl.length = B.cl.length
  lv : B1.level ≤ k
theorem Fol.zero {V : Int} {L : List (List Int)} {c : List Int} {B : Bd} (h : Inv V L (fun _ => False) B) (h0 : B.level = 0) (hs : B.spread = B.sp.length) : Fol V L c 0 B B (fun _ => False) :=
  ⟨h, fun _ e => e.elim, fun _ => rfl, fun _ => hs, fun j _ hj => by omega, rfl, rfl, by omega⟩
section
variable {V : Int} {L : List (List Int)} {c : List Int} {k : Nat} {B B1 : Bd} {ch : Int → Prop}
theorem Fol.skip (h : Fol V L c k B B1 ch) (hk : k < c.length) (hn : -c[k] ∈ B1.st) : Fol V L c (k + 1) B B1 ch :=
  ⟨h.inv, h.chn, h.ch0, h.sp0, fun j hj hjk => by
    by_cases e : j = k
    · subst e; exact hn
    · exact h.not j hj (by omega), h.lost, h.cl, by have := h.lv; omega⟩
theorem Fol.choose (h : Fol V L c k B B1 ch) (hk : k < c.length) (hx : Num V c[k]) (h1 : c[k] ∉ B1.st) (h2 : -c[k] ∉ B1.st) : Fol V L c (k + 1) B (B1.choose (-c[k])) (fun x => ch x ∨ x = -c[k]) := by
  have hlv : (B1.choose (-c[k])).level = B1.level + 1 := rfl
  refine ⟨choose_ok h.inv hx.neg h2 (by rw [Int.neg_neg]; exact h1) h.sp0, fun n hn => ?_, fun e => by have := h.inv.le; omega, fun e => by have := h.inv.le; omega, fun j hj hjk => ?_, h.lost, h.cl, by have := h.lv; omega⟩
  · rcases hn with hn | rfl
    · exact h.chn n hn
    · exact ⟨c[k], List.getElem_mem hk, rfl⟩
  · rw [choose_st]
    by_cases e : j = k
    · subst e; simp
    · simp [h.not j hj (by omega)]
theorem Fol.so (h : Fol V L c k B B1 ch) (hl : B.lost = false) (hk : k < c.length) (hs : c[k] ∈ B1.st) : Confl L (negs c) := follow_so h.inv (h.lost.trans hl) h.chn (List.getElem_mem hk) hs
/-- What Spread tells of it. -/
theorem Fol.spr (h : Fol V L c k B B1 ch) (hk : c.length ≤ k) (hl : B.lost = false) {B2 : Bd} {f : Int} (hs : Spr V L ch B1 B2 f) :
    (f ≠ -1 ↔ Confl L (negs c)) ∧ ((Inv V L ch B2 ∧ (B2.level = 0 → ch = fun _ => False)) ∨ (Inw V L ch B2 ∧ 0 < B2.level)) ∧ (B2.level = 0 → B2.lost = false → B2.spread = B2.sp.length) := by
  obtain ⟨t, ht⟩ := hs.sp
  by_cases hf : f = -1
  · obtain ⟨a1, a2, a3⟩ := hs.ok hf
    refine ⟨⟨fun e => absurd hf e, fun hc => absurd hc ?_⟩, .inl ⟨a1, fun e => h.ch0 (hs.level.symm.trans e)⟩, fun _ _ => a2⟩
    refine follow_no a1 (a3.trans (h.lost.trans hl)) a2 fun m hm => ?_
    obtain ⟨j, hj, rfl⟩ := List.getElem_of_mem hm
    have := h.not j hj (by omega)
    rw [st_ext ht]
    exact List.mem_append.2 (.inl this)
  · obtain ⟨b1, b2, b3⟩ := hs.bad hf
    refine ⟨⟨fun _ => (b1 (h.lost.trans hl)).mono h.chn, fun _ => hf⟩, ?_, fun e e2 => ?_⟩
    · by_cases hl0 : B1.level = 0
      · exact .inl ⟨(b3 hl0).1, fun _ => h.ch0 hl0⟩
      · have hp : 0 < B1.level := by have := h.inv.le; omega
        exact .inr ⟨(b2 hp).1, by rw [hs.level]; exact hp⟩
    · rw [(b3 (hs.level.symm.trans e)).2] at e2; cases e2
end
end Go.Proofs.Ytdlfjijfdibocaa.Pf
