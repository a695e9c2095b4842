/- A board of clauses: all who watch a number are gone through; what a board is between its calls. Lists alone. -/
import Derived.Test.YtkinmangilbeeaaGreatDoorUc
namespace Go.Proofs.YtkinmangilbeeaaGreatDoor.Pf

/-- All who watch a number that is not so, one after another: the board then, who goes on watching it, and the clause that fails (-1: none). -/
def look (nt : Int) : Bd → List (Nat × Int) → List (Nat × Int) → Bd × List (Nat × Int) × Int
  | B, kept, [] => (B, kept, -1)
  | B, kept, (i, o) :: rest =>
    if B.so o then look nt B (kept ++ [(i, o)]) rest
    else match B.turnC nt (B.cl.getD i []) with
      | (c', some x) => look nt { B with cl := B.cl.set i c', wt := upd B.wt x (B.wt x ++ [(i, c'.getD 0 0)]) } kept rest
      | (c', none) =>
        if B.so (-(c'.getD 0 0)) then ({ B with cl := B.cl.set i c' }, kept ++ (i, c'.getD 0 0) :: rest, i)
        else if B.so (c'.getD 0 0) then look nt { B with cl := B.cl.set i c' } (kept ++ [(i, c'.getD 0 0)]) rest
        else look nt (({ B with cl := B.cl.set i c' } : Bd).put (c'.getD 0 0) i) (kept ++ [(i, c'.getD 0 0)]) rest

/-- What stays as it was. -/
structure LF (B B' : Bd) : Prop where
  level : B'.level = B.level
  lost : B'.lost = B.lost
  spread : B'.spread = B.spread
  same : SameCl B.cl B'.cl
  len : B'.cl.length = B.cl.length
  sp : ∃ t, B'.sp = B.sp ++ t ∧ ∀ s ∈ t, s.2.1 = B.level
theorem LF.refl (B : Bd) : LF B B := ⟨rfl, rfl, rfl, .refl _, rfl, [], by simp, by simp⟩
theorem LF.trans {A B C : Bd} (h : LF A B) (k : LF B C) : LF A C := by
  obtain ⟨t, h1, h2⟩ := h.sp
  obtain ⟨u, k1, k2⟩ := k.sp
  refine ⟨k.level.trans h.level, k.lost.trans h.lost, k.spread.trans h.spread, h.same.trans k.same, k.len.trans h.len, t ++ u, by rw [k1, h1, List.append_assoc], fun s hs => ?_⟩
  rcases List.mem_append.1 hs with hs | hs
  · exact h2 s hs
  · rw [k2 s hs, h.level]
theorem LF.set {B : Bd} {i : Nat} {c c' : List Int} (hc : B.cl[i]? = some c) (hm : ∀ y, y ∈ c' ↔ y ∈ c) (f : Int → List (Nat × Int)) : LF B { B with cl := B.cl.set i c', wt := f } :=
  ⟨rfl, rfl, rfl, SameCl.set hc hm, by simp, [], by simp, by simp⟩
theorem LF.put (B : Bd) (x k : Int) : LF B (B.put x k) := ⟨rfl, rfl, rfl, .refl _, rfl, [(x, B.level, k)], rfl, by simp⟩

theorem getD_some {A : List (List Int)} {i : Nat} {c : List Int} (h : A[i]? = some c) : A.getD i [] = c := by simp [List.getD, h]

theorem look_ok {V nt : Int} {D : List Int} {ch : Int → Prop} (rest : List (Nat × Int)) : ∀ (B : Bd) (kept : List (Nat × Int)), LI V nt D ch B kept rest →
    LF B (look nt B kept rest).1 ∧ (((look nt B kept rest).2.2 = -1 ∧ LI V nt D ch (look nt B kept rest).1 (look nt B kept rest).2.1 []) ∨
      (0 ≤ (look nt B kept rest).2.2 ∧ (∃ k' r', (look nt B kept rest).2.1 = k' ++ r' ∧ LI V nt D ch (look nt B kept rest).1 k' r') ∧ ∃ c ∈ (look nt B kept rest).1.cl, ∀ y ∈ c, -y ∈ (look nt B kept rest).1.st)) := by
  induction rest with
  | nil => intro B kept h; exact ⟨.refl B, .inl ⟨rfl, h⟩⟩
  | cons p rest ih =>
    obtain ⟨i, o⟩ := p
    intro B kept h
    unfold look
    by_cases ho : B.so o = true
    · rw [if_pos ho]
      exact ih B _ (h.keep (so_iff.1 ho))
    · rw [if_neg ho]
      obtain ⟨c, hc, hw, hcm, hn⟩ := h.there
      rw [getD_some hc]
      obtain ⟨o', ht⟩ := turned (B := B) hw hn
      cases htc : B.turnC nt c with
      | mk c' t =>
        rw [htc] at ht
        simp only at ht
        have hfst := ht.fst
        cases t with
        | some x =>
          simp only [hfst]
          have h2 := ih _ _ (h.turn hc ht)
          exact ⟨(LF.set hc ht.mem _).trans h2.1, h2.2⟩
        | none =>
          simp only [hfst]
          have hs := h.stay hc ht
          have hown := set_own (c' := c') hc
          have hm' : c' ∈ B.cl.set i c' := List.mem_of_getElem? hown
          obtain ⟨hy, hor⟩ := ht.no rfl
          by_cases h1 : B.so (-o') = true
          · rw [if_pos h1]
            have hm1 := so_iff.1 h1
            refine ⟨LF.set hc ht.mem B.wt, .inr ⟨Int.natCast_nonneg i, ⟨kept, _, rfl, hs⟩, c', hm', fun y hy' => ?_⟩⟩
            by_cases e1 : y = o'
            · subst e1; exact hm1
            · by_cases e2 : y = nt
              · subst e2; exact h.nt
              · rcases hor with hor | hor
                · exact absurd hm1 (h.wf.sc _ hor)
                · exact hor y hy' e1 e2
          · rw [if_neg h1]
            by_cases h2 : B.so o' = true
            · rw [if_pos h2]
              have h3 := ih _ _ (hs.keep (so_iff.1 h2))
              exact ⟨(LF.set hc ht.mem B.wt).trans h3.1, h3.2⟩
            · rw [if_neg h2]
              have hno : o' ∉ B.st := fun e => h2 (so_iff.2 e)
              have hp := hs.put (k := (i : Int)) hm' (Wat.mem ((hy o').2 (.inl rfl))) hno (fun e => h1 (so_iff.2 e)) (fun m hm hne => by
                by_cases e2 : m = nt
                · subst e2; exact h.nt
                · rcases hor with hor | hor
                  · exact absurd hor hno
                  · exact hor m hm hne e2)
              have h3 := ih _ _ (hp.keep (by rw [st_put]; simp))
              exact ⟨((LF.set hc ht.mem B.wt).trans (LF.put _ _ _)).trans h3.1, h3.2⟩

def Bd.lookAt (B : Bd) (nt : Int) : Bd × Int := ({ (look nt B [] (B.wt nt)).1 with wt := upd (look nt B [] (B.wt nt)).1.wt nt (look nt B [] (B.wt nt)).2.1 }, (look nt B [] (B.wt nt)).2.2)

/-- A board of clauses L, with what was chosen: between its calls. -/
structure Inv (V : Int) (L : List (List Int)) (ch : Int → Prop) (B : Bd) : Prop where
  wf : Wf V B
  le : 0 ≤ B.level
  rep : B.lost = false → SameCl L B.cl
  lst : B.lost = true → Confl L (fun _ => False)
  cmp : B.lost = false → Cmp B (B.st.take B.spread)
  one : Cmp B []
  snd : Snd B ch
  zp : ∃ k, k ≤ B.sp.length ∧ (∀ s ∈ B.sp.take k, s.2.1 = 0) ∧ (∀ s ∈ B.sp.drop k, 0 < s.2.1) ∧ (0 < B.level → k ≤ B.spread)
/-- A board on which a clause has failed above level 0: what is so there is still to be taken back. -/
structure Inw (V : Int) (L : List (List Int)) (ch : Int → Prop) (B : Bd) : Prop where
  wf : Wf V B
  le : 0 ≤ B.level
  rep : B.lost = false → SameCl L B.cl
  lst : B.lost = true → Confl L (fun _ => False)
  cz : B.lost = false → ∀ n ∈ B.zero, ∀ c ∈ B.cl, Wat (-n) c → ∃ m ∈ c, m ∈ B.zero
  one : Cmp B []
  snd : Snd B ch
  zp : ∃ k, k ≤ B.sp.length ∧ (∀ s ∈ B.sp.take k, s.2.1 = 0) ∧ (∀ s ∈ B.sp.drop k, 0 < s.2.1) ∧ k ≤ B.spread

theorem zero_take {B : Bd} {k : Nat} (h1 : ∀ s ∈ B.sp.take k, s.2.1 = 0) (h2 : ∀ s ∈ B.sp.drop k, 0 < s.2.1) : B.zero = B.st.take k := by
  unfold Bd.zero Bd.st
  conv => lhs; rw [← List.take_append_drop k B.sp]
  rw [List.filter_append, List.filter_eq_self.2 (fun s hs => by simp [h1 s hs]), List.filter_eq_nil_iff.2 (fun s hs => by have := h2 s hs; simp; omega), List.append_nil, List.map_take]
theorem confl_same {A B : List (List Int)} (h : SameCl A B) {ch : Int → Prop} (hc : Confl B ch) : Confl A ch := by
  rcases hc with ⟨n, h1, h2⟩ | ⟨c, hcm, hm⟩
  · exact .inl ⟨n, h1, h2⟩
  · obtain ⟨d, hd, hx⟩ := h.fro c hcm
    exact .inr ⟨d, hd, fun m hmd => (hm m ((hx m).1 hmd)).more h.fro⟩
theorem SameCl.symm {A B : List (List Int)} (h : SameCl A B) : SameCl B A := ⟨h.fro, h.to⟩
end Go.Proofs.YtkinmangilbeeaaGreatDoor.Pf

namespace Go.Proofs.YtkinmangilbeeaaGreatDoor.Pf

theorem upd_self {α : Type} (f : Int → α) (k : Int) : upd f k (f k) = f := by
  funext x
  unfold upd
  split
  · rename_i e; rw [e]
  · rfl
/-- The part of level 0, when there are more steps. -/
theorem zp_ext {sp t : List (Int × Int × Int)} {level : Int} {spread sp' : Nat} (hlv : ∀ s ∈ sp, 0 ≤ s.2.1 ∧ s.2.1 ≤ level) (ht : ∀ s ∈ t, s.2.1 = level) (h0 : 0 ≤ level) (hsp : spread ≤ sp')
    (h : ∃ k, k ≤ sp.length ∧ (∀ s ∈ sp.take k, s.2.1 = 0) ∧ (∀ s ∈ sp.drop k, 0 < s.2.1) ∧ (0 < level → k ≤ spread)) :
    ∃ k, k ≤ (sp ++ t).length ∧ (∀ s ∈ (sp ++ t).take k, s.2.1 = 0) ∧ (∀ s ∈ (sp ++ t).drop k, 0 < s.2.1) ∧ (0 < level → k ≤ sp') := by
  obtain ⟨k, h1, h2, h3, h4⟩ := h
  by_cases hl : level = 0
  · refine ⟨(sp ++ t).length, Nat.le_refl _, fun s hs => ?_, fun s hs => by rw [List.drop_length] at hs; simp at hs, fun h => by omega⟩
    rw [List.take_length] at hs
    rcases List.mem_append.1 hs with hs | hs
    · have := hlv s hs; omega
    · rw [ht s hs, hl]
  · refine ⟨k, by rw [List.length_append]; omega, fun s hs => ?_, fun s hs => ?_, fun h => by have := h4 h; omega⟩
    · rw [List.take_append_of_le_length h1] at hs
      exact h2 s hs
    · rw [List.drop_append_of_le_length h1] at hs
      rcases List.mem_append.1 hs with hs | hs
      · exact h3 s hs
      · rw [ht s hs]; omega
theorem st_len (B : Bd) : B.st.length = B.sp.length := by simp [Bd.st]
theorem st_ext {B B' : Bd} {t : List (Int × Int × Int)} (h : B'.sp = B.sp ++ t) : B'.st = B.st ++ t.map (·.1) := by simp [Bd.st, h]
theorem zero_ext {B B' : Bd} {t : List (Int × Int × Int)} (h : B'.sp = B.sp ++ t) (ht : ∀ s ∈ t, s.2.1 = B.level) (h0 : 0 < B.level) : B'.zero = B.zero := by
  unfold Bd.zero
  rw [h, List.filter_append, show t.filter (fun s => s.2.1 == 0) = [] from List.filter_eq_nil_iff.2 (fun s hs => by have := ht s hs; simp; omega), List.append_nil]

structure Stepped (V : Int) (L : List (List Int)) (ch : Int → Prop) (B B' : Bd) (f : Int) : Prop where
  level : B'.level = B.level
  lost : B'.lost = B.lost
  spread : B'.spread = B.spread + 1
  sp : ∃ t, B'.sp = B.sp ++ t
  wf : Wf V B'
  ok : f = -1 → Inv V L ch B'
  bad : f ≠ -1 → 0 ≤ f ∧ (B.lost = false → Confl L ch) ∧ (0 < B.level → Inw V L ch B') ∧ (B.level = 0 → Inv V L ch { B' with lost := true })

theorem step_ok {V : Int} {L : List (List Int)} {ch : Int → Prop} {B : Bd} (h : Inv V L ch B) {n : Int} (hn : B.st[B.spread]? = some n) :
    Stepped V L ch B (({ B with spread := B.spread + 1 } : Bd).lookAt (-n)).1 (({ B with spread := B.spread + 1 } : Bd).lookAt (-n)).2 := by
  have hnm : n ∈ B.st := List.mem_of_getElem? hn
  obtain ⟨hlt, hne⟩ := List.getElem?_eq_some_iff.1 hn
  have hlt' : B.spread < B.sp.length := by rw [← st_len]; exact hlt
  generalize hB1 : ({ B with spread := B.spread + 1 } : Bd) = B1
  have e1 : B1.st = B.st := by rw [← hB1]; rfl
  have e2 : B1.zero = B.zero := by rw [← hB1]; rfl
  have e3 : B1.cl = B.cl := by rw [← hB1]
  have e4 : B1.level = B.level := by rw [← hB1]
  have e5 : B1.lost = B.lost := by rw [← hB1]
  have e6 : B1.spread = B.spread + 1 := by rw [← hB1]
  have e7 : B1.sp = B.sp := by rw [← hB1]
  have hw1 : Wf V B1 := by
    rw [← hB1]
    exact ⟨h.wf.cl, h.wf.sn, h.wf.sc, h.wf.sr, hlt', h.wf.wi, h.wf.wd, h.wf.wa, h.wf.lv⟩
  have hD : ∃ D, (B.lost = false → D = B.st.take B.spread) ∧ (∀ m ∈ D, m ∈ B.st) ∧ Cmp B D := by
    cases hl : B.lost
    · exact ⟨_, fun _ => rfl, fun m hm => List.mem_of_mem_take hm, h.cmp hl⟩
    · exact ⟨[], (fun e => by cases e), (fun m hm => by simp at hm), h.one⟩
  obtain ⟨D, hD1, hD2, hD3⟩ := hD
  have hli : LI V (-n) D ch B1 [] (B1.wt (-n)) := by
    refine ⟨?_, by rw [Int.neg_neg, e1]; exact hnm, ?_, fun m hm => by rw [e1]; exact hD2 m hm, ?_, fun p hp => by simp at hp, by rw [e4]; exact h.le⟩
    · rw [List.nil_append, upd_self]
      exact hw1
    · exact ⟨fun c hc hl x hx => by rw [e2]; exact hD3.one c (e3 ▸ hc) hl x hx, fun m hm c hc hw => by rw [e1]; exact hD3.dn m hm c (e3 ▸ hc) hw, fun m hm hz c hc hw => by rw [e2] at hz ⊢; exact hD3.dz m hm hz c (e3 ▸ hc) hw⟩
    · exact ⟨fun m hm => by rw [e3]; exact h.snd.st m (e1 ▸ hm), fun m hm => by rw [e3]; exact h.snd.zs m (e2 ▸ hm)⟩
  have hlk := look_ok (B1.wt (-n)) B1 [] hli
  unfold Bd.lookAt
  generalize look (-n) B1 [] (B1.wt (-n)) = r at hlk
  obtain ⟨R, kp, f⟩ := r
  simp only at hlk ⊢
  obtain ⟨hf, hor⟩ := hlk
  obtain ⟨t, ht1, ht2⟩ := hf.sp
  rw [e7] at ht1
  rw [e4] at ht2
  have hlev : R.level = B.level := hf.level.trans e4
  have hlos : R.lost = B.lost := hf.lost.trans e5
  have hspr : R.spread = B.spread + 1 := hf.spread.trans e6
  have hst : R.st = B.st ++ t.map (·.1) := st_ext ht1
  have hsame : SameCl B.cl R.cl := e3 ▸ hf.same
  have hzp : ∃ k, k ≤ R.sp.length ∧ (∀ s ∈ R.sp.take k, s.2.1 = 0) ∧ (∀ s ∈ R.sp.drop k, 0 < s.2.1) ∧ (0 < R.level → k ≤ R.spread) := by
    rw [ht1, hlev, hspr]
    exact zp_ext h.wf.lv ht2 h.le (Nat.le_succ _) h.zp
  have hnz : n ∈ R.zero → B.level = 0 := by
    intro hz
    by_cases h0 : B.level = 0
    · exact h0
    · exfalso
      have hpos : 0 < B.level := by have := h.le; omega
      rw [zero_ext ht1 ht2 hpos] at hz
      obtain ⟨k, k1, k2, k3, k4⟩ := h.zp
      rw [zero_take k2 k3] at hz
      obtain ⟨j, hj, ej⟩ := List.getElem_of_mem hz
      have hjk : j < k := by rw [List.length_take] at hj; omega
      have hjl : j < B.st.length := by rw [List.length_take] at hj; omega
      rw [List.getElem_take, ← hne] at ej
      have := nodup_inj h.wf.sn hjl hlt ej
      have := k4 hpos
      omega
  rcases hor with ⟨rfl, hl⟩ | ⟨hf0, ⟨k', r', hk, hl⟩, c, hc, hcc⟩
  · have hwf : Wf V { R with wt := upd R.wt (-n) kp } := by simpa using hl.wf
    refine ⟨hlev, hlos, hspr, ⟨t, ht1⟩, hwf, fun _ => ?_, fun e => absurd rfl e⟩
    refine ⟨hwf, by rw [show ({ R with wt := upd R.wt (-n) kp } : Bd).level = R.level from rfl, hlev]; exact h.le, fun e => (h.rep (hlos ▸ e)).trans hsame, fun e => h.lst (hlos ▸ e), fun e => ?_, ?_, ?_, hzp⟩
    · have hd : R.st.take R.spread = B.st.take B.spread ++ [n] := by
        rw [hst, hspr, List.take_append_of_le_length (by omega), List.take_succ_eq_append_getElem hlt, hne]
      have eD := hD1 (hlos ▸ e)
      show Cmp _ (R.st.take R.spread)
      rw [hd]
      have key : ∀ c ∈ R.cl, Wat (-n) c → ∃ m ∈ c, m ∈ R.st := fun c hc hw => by
        obtain ⟨i, hi⟩ := List.mem_iff_getElem?.1 hc
        obtain ⟨o, ho⟩ := hwf.wa i c hi (-n) hw
        simp only [upd_same] at ho
        exact hl.kd (i, o) ho c hi
      refine ⟨hl.cmp.one, fun m hm c hc hw => ?_, fun m hm hz c hc hw => ?_⟩
      · rcases List.mem_append.1 hm with hm | hm
        · exact hl.cmp.dn m (eD ▸ hm) c hc hw
        · have : m = n := by simpa using hm
          subst this
          exact key c hc hw
      · rcases List.mem_append.1 hm with hm | hm
        · exact hl.cmp.dz m (eD ▸ hm) hz c hc hw
        · have : m = n := by simpa using hm
          subst this
          obtain ⟨y, hy, hys⟩ := key c hc hw
          exact ⟨y, hy, at_zero (B := R) hwf.lv (hlev.trans (hnz hz)) hys⟩
    · exact ⟨hl.cmp.one, fun m hm => by simp at hm, fun m hm => by simp at hm⟩
    · exact ⟨hl.snd.st, hl.snd.zs⟩
  · have hwf : Wf V { R with wt := upd R.wt (-n) kp } := by rw [hk]; exact hl.wf
    have hone : Cmp { R with wt := upd R.wt (-n) kp } [] := ⟨hl.cmp.one, fun m hm => by simp at hm, fun m hm => by simp at hm⟩
    have hsnd : Snd { R with wt := upd R.wt (-n) kp } ch := ⟨hl.snd.st, hl.snd.zs⟩
    refine ⟨hlev, hlos, hspr, ⟨t, ht1⟩, hwf, fun e => by omega, fun _ => ⟨hf0, fun e => ?_, fun hpos => ?_, fun h0 => ?_⟩⟩
    · exact confl_same ((h.rep e).trans hsame) (.inr ⟨c, hc, fun m hm => hl.snd.st _ (hcc m hm)⟩)
    · obtain ⟨k, k1, k2, k3, k4⟩ := hzp
      refine ⟨hwf, by rw [show ({ R with wt := upd R.wt (-n) kp } : Bd).level = R.level from rfl, hlev]; exact h.le, fun e => (h.rep (hlos ▸ e)).trans hsame, fun e => h.lst (hlos ▸ e), fun e m hm c hc hw => ?_, hone, hsnd, ⟨k, k1, k2, k3, k4 (by rw [hlev]; exact hpos)⟩⟩
      have eD := hD1 (hlos ▸ e)
      refine hl.cmp.dz m ?_ hm c hc hw
      rw [eD]
      have hm' : m ∈ B.zero := by rw [← zero_ext ht1 ht2 hpos]; exact hm
      obtain ⟨j, j1, j2, j3, j4⟩ := h.zp
      rw [zero_take j2 j3] at hm'
      exact List.mem_of_mem_take (i := j) (by rw [List.take_take, Nat.min_eq_left (j4 hpos)]; exact hm')
    · refine ⟨⟨hwf.cl, hwf.sn, hwf.sc, hwf.sr, hwf.sp, hwf.wi, hwf.wd, hwf.wa, hwf.lv⟩, by rw [show ({ R with wt := upd R.wt (-n) kp, lost := true } : Bd).level = R.level from rfl, hlev]; exact h.le, fun e => by simp at e, fun _ => ?_, fun e => by simp at e, ⟨hone.one, hone.dn, hone.dz⟩, ⟨hsnd.st, hsnd.zs⟩, hzp⟩
      cases hlb : B.lost
      · exact confl_same ((h.rep hlb).trans hsame) (.inr ⟨c, hc, fun m hm => hl.snd.zs _ (at_zero (B := R) hwf.lv (hlev.trans h0) (hcc m hm))⟩)
      · exact h.lst hlb
end Go.Proofs.YtkinmangilbeeaaGreatDoor.Pf
