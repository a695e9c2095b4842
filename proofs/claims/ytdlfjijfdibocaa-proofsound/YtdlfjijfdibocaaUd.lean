/- A board of clauses: all who watch a number are gone through; what a board is between its calls. Lists alone. -/
import Derived.Test.YtdlfjijfdibocaaUc
namespace Go.Proofs.Ytdlfjijfdibocaa.Pf

/-- All who watch a number that is not so, one after another: the board then, who goes on watching it, and the clause that fails (-1: none). -/
def look (nt : Int) : Bd → List (Nat × Int) → List (Nat × Int) → Bd × List (Nat × Int) × Int
  | B, kept, [] => (B, kept, -1)
  | B, kept, (i, o) :: rest =>
    if B.so o then look nt B (kept ++ [(i, o)]) rest
    else match B.turnC nt (B.cl.getD i []) with
      | (c', some x) => look nt { B with cl := B.cl.set i c', wt := upd B.wt x (B.wt x ++ [(i, c'.getD 0 0)]) } kept rest
      | (c', none) =>
        if B.so (-(c'.getD 0 0)) then ({ B with cl := B.cl.set i c' }, kept ++ (i, c'.getD 0 0) :: rest, i)
        else if B.so (c'.getD 0 0) then look nt { B with cl := B.cl.set i c' } (kept ++ [(i, c'.getD 0 0)]) rest
        else look nt (({ B with cl := B.cl.set i c' } : Bd).put (c'.getD 0 0) i) (kept ++ [(i, c'.getD 0 0)]) rest

/-- What stays as it was. -/
structure LF (B B' : Bd) : Prop where
  level : B'.level = B.level
  lost : B'.lost = B.lost
  spread : B'.spread = B.spread
  same : SameCl B.cl B'.cl
  len : B'.cl.length = B.cl.length
  sp : ∃ t, B'.sp = B.sp ++ t ∧ ∀ s ∈ t, s.2.1 = B.level
theorem LF.refl (B : Bd) : LF B B := ⟨rfl, rfl, rfl, .refl _, rfl, [], by simp, by simp⟩
theorem LF.trans {A B C : Bd} (h : LF A B) (k : LF B C) : LF A C := by
  obtain ⟨t, h1, h2⟩ := h.sp
  obtain ⟨u, k1, k2⟩ := k.sp
  refine ⟨k.level.trans h.level, k.lost.trans h.lost, k.spread.trans h.spread, h.same.trans k.same, k.len.trans h.len, t ++ u, by rw [k1, h1, List.append_assoc], fun s hs => ?_⟩
  rcases List.mem_append.1 hs with hs | hs
  · exact h2 s hs
  · rw [k2 s hs, h.level]
theorem LF.set {B : Bd} {i : Nat} {c c' : List Int} (hc : B.cl[i]? = some c) (hm : ∀ y, y ∈ c' ↔ y ∈ c) (f : Int → List (Nat × Int)) : LF B { B with cl := B.cl.set i c', wt := f } :=
  ⟨rfl, rfl, rfl, SameCl.set hc hm, by simp, [], by simp, by simp⟩
theorem LF.put (B : Bd) (x k : Int) : LF B (B.put x k) := ⟨rfl, rfl, rfl, .refl _, rfl, [(x, B.level, k)], rfl, by simp⟩

theorem getD_some {A : List (List Int)} {i : Nat} {c : List Int} (h : A[i]? = some c) : A.getD i [] = c := by simp [List.getD, h]

theorem look_ok {V nt : Int} {D : List Int} {ch : Int → Prop} (rest : List (Nat × Int)) : ∀ (B : Bd) (kept : List (Nat × Int)), LI V nt D ch B kept rest →
    LF B (look nt B kept rest).1 ∧ (((look nt B kept rest).2.2 = -1 ∧ LI V nt D ch (look nt B kept rest).1 (look nt B kept rest).2.1 []) ∨
      (0 ≤ (look nt B kept rest).2.2 ∧ (∃ k' r', (look nt B kept rest).2.1 = k' ++ r' ∧ LI V nt D ch (look nt B kept rest).1 k' r') ∧ ∃ c ∈ (look nt B kept rest).1.cl, ∀ y ∈ c, -y ∈ (look nt B kept rest).1.st)) := by
  induction rest with
  | nil => intro B kept h; exact ⟨.refl B, .inl ⟨rfl, h⟩⟩
  | cons p rest ih =>
    obtain ⟨i, o⟩ := p
    intro B kept h
    unfold look
    by_cases ho : B.so o = true
    · rw [if_pos ho]
      exact ih B _ (h.keep (so_iff.1 ho))
    · rw [if_neg ho]
      obtain ⟨c, hc, hw, hcm, hn⟩ := h.there
      rw [getD_some hc]
      obtain ⟨o', ht⟩ := turned (B := B) hw hn
      cases htc : B.turnC nt c with
      | mk c' t =>
        rw [htc] at ht
        simp only at ht
        have hfst := ht.fst
        cases t with
        | some x =>
          simp only [hfst]
          have h2 := ih _ _ (h.turn hc ht)
          exact ⟨(LF.set hc ht.mem _).trans h2.1, h2.2⟩
        | none =>
          simp only [hfst]
          have hs := h.stay hc ht
          have hown := set_own (c' := c') hc
          have hm' : c' ∈ B.cl.set i c' := List.mem_of_getElem? hown
          obtain ⟨hy, hor⟩ := ht.no rfl
          by_cases h1 : B.so (-o') = true
          · rw [if_pos h1]
            have hm1 := so_iff.1 h1
            refine ⟨LF.set hc ht.mem B.wt, .inr ⟨Int.natCast_nonneg i, ⟨kept, _, rfl, hs⟩, c', hm', fun y hy' => ?_⟩⟩
            by_cases e1 : y = o'
            · subst e1; exact hm1
            · by_cases e2 : y = nt
              · subst e2; exact h.nt
              · rcases hor with hor | hor
                · exact absurd hm1 (h.wf.sc _ hor)
                · exact hor y hy' e1 e2
          · rw [if_neg h1]
            by_cases h2 : B.so o' = true
            · rw [if_pos h2]
              have h3 := ih _ _ (hs.keep (so_iff.1 h2))
              exact ⟨(LF.set hc ht.mem B.wt).trans h3.1, h3.2⟩
            · rw [if_neg h2]
              have hno : o' ∉ B.st := fun e => h2 (so_iff.2 e)
              have hp := hs.put (k := (i : Int)) hm' (Wat.mem ((hy o').2 (.inl rfl))) hno (fun e => h1 (so_iff.2 e)) (fun m hm hne => by
                by_cases e2 : m = nt
                · subst e2; exact h.nt
                · rcases hor with hor | hor
                  · exact absurd hor hno
                  · exact hor m hm hne e2)
              have h3 := ih _ _ (hp.keep (by rw [st_put]; simp))
              exact ⟨((LF.set hc ht.mem B.wt).trans (LF.put _ _ _)).trans h3.1, h3.2⟩

def Bd.lookAt (B : Bd) (nt : Int) : Bd × Int := ({ (look nt B [] (B.wt nt)).1 with wt := upd (look nt B [] (B.wt nt)).1.wt nt (look nt B [] (B.wt nt)).2.1 }, (look nt B [] (B.wt nt)).2.2)

/-- A board of clauses L, with what was chosen: between its calls. -/
structure Inv (V : Int) (L : List (List Int)) (ch : Int → Prop) (B : Bd) : Prop where
  wf : Wf V B
  le : 0 ≤ B.level
  rep : B.lost = false → SameCl L B.cl
  lst : B.lost = true → Confl L (fun _ => False)
  cmp : B.lost = false → Cmp B (B.st.take B.spread)
  one : Cmp B []
  snd : Snd B ch
  zp : ∃ k, k ≤ B.sp.length ∧ (∀ s ∈ B.sp.take k, s.2.1 = 0) ∧ (∀ s ∈ B.sp.drop k, 0 < s.2.1) ∧ (0 < B.level → k ≤ B.spread)
/-- A board on which a clause has failed above level 0: what is so there is still to be taken back. -/
structure Inw (V : Int) (L : List (List Int)) (ch : Int → Prop) (B : Bd) : Prop where
  wf : Wf V B
  le : 0 ≤ B.level
  rep : B.lost = false → SameCl L B.cl
  lst : B.lost = true → Confl L (fun _ => False)
  cz : B.lost = false → ∀ n ∈ B.zero, ∀ c ∈ B.cl, Wat (-n) c → ∃ m ∈ c, m ∈ B.zero
  one : Cmp B []
  snd : Snd B ch
  zp : ∃ k, k ≤ B.sp.length ∧ (∀ s ∈ B.sp.take k, s.2.1 = 0) ∧ (∀ s ∈ B.sp.drop k, 0 < s.2.1) ∧ k ≤ B.spread

theorem zero_take {B : Bd} {k : Nat} (h1 : ∀ s ∈ B.sp.take k, s.2.1 = 0) (h2 : ∀ s ∈ B.sp.drop k, 0 < s.2.1) : B.zero = B.st.take k := by
  unfold Bd.zero Bd.st
  conv => lhs; rw [← List.take_append_drop k B.sp]
  rw [List.filter_append, List.filter_eq_self.2 (fun s hs => by simp [h1 s hs]), List.filter_eq_nil_iff.2 (fun s hs => by have := h2 s hs; simp; omega), List.append_nil, List.map_take]
theorem confl_same {A B : List (List Int)} (h : SameCl A B) {ch : Int → Prop} (hc : Confl B ch) : Confl A ch := by
  rcases hc with ⟨n, h1, h2⟩ | ⟨c, hcm, hm⟩
  · exact .inl ⟨n, h1, h2⟩
  · obtain ⟨d, hd, hx⟩ := h.fro c hcm
    exact .inr ⟨d, hd, fun m hmd => (hm m ((hx m).1 hmd)).more h.fro⟩
theorem SameCl.symm {A B : List (List Int)} (h : SameCl A B) : SameCl B A := ⟨h.fro, h.to⟩
end Go.Proofs.Ytdlfjijfdibocaa.Pf
