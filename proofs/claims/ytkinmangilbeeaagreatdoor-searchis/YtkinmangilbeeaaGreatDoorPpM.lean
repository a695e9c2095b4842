/- Those who watch a number are gone through, in place: lists alone. -/
import Derived.Test.YtkinmangilbeeaaGreatDoorUg
import Derived.Test.YtkinmangilbeeaaGreatDoorQbM
import Derived.Test.YtkinmangilbeeaaGreatDoorPiM
namespace Go.Proofs.YtkinmangilbeeaaGreatDoor.Pf

def lkEnd (nt : Int) (r : Bd × List (Nat × Int) × Int) : Bd × Int := ({ r.1 with wt := upd r.1.wt nt r.2.1 }, r.2.2)
theorem lookAt_eq (B : Bd) (nt : Int) : B.lookAt nt = lkEnd nt (look nt B [] (B.wt nt)) := rfl
theorem upd_off {α : Type} {f g : Int → α} {k : Int} (h : ∀ x, x ≠ k → f x = g x) (v : α) : upd f k v = upd g k v := by
  funext x
  by_cases e : x = k
  · subst e; rw [upd_same, upd_same]
  · rw [upd_ne _ _ e, upd_ne _ _ e, h x e]
/-- What watches the number itself is none of the going through. -/
theorem look_wt (nt : Int) (rest : List (Nat × Int)) : ∀ (B : Bd) (kept : List (Nat × Int)) (f : Int → List (Nat × Int)), (∀ x, x ≠ nt → f x = B.wt x) → lkEnd nt (look nt { B with wt := f } kept rest) = lkEnd nt (look nt B kept rest) := by
  induction rest with
  | nil => intro B kept f hf; unfold look lkEnd; simp only; rw [upd_off hf]
  | cons p rest ih =>
    obtain ⟨i, o⟩ := p
    intro B kept f hf
    unfold look
    have h1 : ∀ n, ({ B with wt := f } : Bd).so n = B.so n := fun n => rfl
    have h2 : ∀ c, ({ B with wt := f } : Bd).turnC nt c = B.turnC nt c := fun c => by
      match c with
      | [] => rfl
      | [a] => rfl
      | a :: b :: r => rfl
    simp only [h1, h2]
    by_cases ho : B.so o = true
    · simp only [ho, if_true]
      exact ih B _ f hf
    · simp only [ho, if_false, Bool.false_eq_true]
      cases htc : B.turnC nt (B.cl.getD i []) with
      | mk c' t =>
        cases t with
        | some x =>
          simp only
          refine ih { B with cl := B.cl.set i c', wt := upd B.wt x (B.wt x ++ [(i, c'.getD 0 0)]) } kept _ fun y hy => ?_
          by_cases e : y = x
          · subst e; simp only [upd_same]; rw [hf y hy]
          · simp only [upd_ne _ _ e]; exact hf y hy
        | none =>
          simp only
          by_cases h3 : B.so (-(c'.getD 0 0)) = true
          · simp only [h3, if_true]
            unfold lkEnd; simp only; rw [upd_off hf]
          · simp only [h3, if_false, Bool.false_eq_true]
            by_cases h4 : B.so (c'.getD 0 0) = true
            · simp only [h4, if_true]
              exact ih { B with cl := B.cl.set i c' } _ f hf
            · simp only [h4, if_false, Bool.false_eq_true]
              exact ih (({ B with cl := B.cl.set i c' } : Bd).put (c'.getD 0 0) i) _ f hf
theorem LI.wtOff {V nt : Int} {D : List Int} {ch : Int → Prop} {B : Bd} {kept rest : List (Nat × Int)} (h : LI V nt D ch B kept rest) {f : Int → List (Nat × Int)} (hf : ∀ x, x ≠ nt → f x = B.wt x) : LI V nt D ch { B with wt := f } kept rest := by
  refine ⟨?_, h.nt, ⟨h.cmp.one, h.cmp.dn, h.cmp.dz⟩, h.ds, ⟨h.snd.st, h.snd.zs⟩, h.kd, h.le⟩
  simp only
  rw [upd_off hf]
  exact h.wf
/-- Between two of those who watch. -/
structure Lk (V nt : Int) (D : List Int) (ch : Int → Prop) (B0 : Bd) (l : List (Nat × Int)) (k : Nat) (kept : List (Nat × Int)) (B : Bd) : Prop where
  kl : kept.length ≤ k
  kk : k ≤ l.length
  wt : B.wt nt = kept ++ l.drop kept.length
  li : LI V nt D ch B kept (l.drop k)
  eq : B0.lookAt nt = lkEnd nt (look nt B kept (l.drop k))
theorem Lk.begin {V nt : Int} {D : List Int} {ch : Int → Prop} {B0 : Bd} (h : LI V nt D ch B0 [] (B0.wt nt)) : Lk V nt D ch B0 (B0.wt nt) 0 [] B0 := ⟨Nat.le_refl _, Nat.zero_le _, by simp, by simpa using h, by simpa using lookAt_eq B0 nt⟩
theorem set_keep {l kept : List (Nat × Int)} {k : Nat} (hk : kept.length ≤ k) (hl : k < l.length) (p : Nat × Int) : (kept ++ l.drop kept.length).set kept.length p = (kept ++ [p]) ++ l.drop (kept ++ [p]).length := by
  rw [List.set_append_right _ _ (Nat.le_refl _), Nat.sub_self, List.append_assoc, List.length_append, List.length_singleton]
  congr 1
  rw [List.drop_eq_getElem_cons (show kept.length < l.length by omega)]
  rfl
section
variable {V nt : Int} {D : List Int} {ch : Int → Prop} {B0 B : Bd} {l : List (Nat × Int)} {k : Nat} {kept : List (Nat × Int)} {i : Nat} {o : Int}
theorem Lk.dropK (hl : l[k]? = some (i, o)) : l.drop k = (i, o) :: l.drop (k + 1) := by
  obtain ⟨h1, h2⟩ := List.getElem?_eq_some_iff.1 hl
  rw [List.drop_eq_getElem_cons h1, h2]
theorem upd_offs {α : Type} (f : Int → α) (k : Int) (v : α) : ∀ x, x ≠ k → upd f k v x = f x := fun _ h => upd_ne _ _ h
/-- One that is as it should be is kept. -/
theorem Lk.keep (h : Lk V nt D ch B0 l k kept B) (hl : l[k]? = some (i, o)) (ho : o ∈ B.st) : Lk V nt D ch B0 l (k + 1) (kept ++ [(i, o)]) { B with wt := upd B.wt nt ((B.wt nt).set kept.length (i, o)) } := by
  have hk := (List.getElem?_eq_some_iff.1 hl).1
  have hd := Lk.dropK hl
  have hli := h.li
  rw [hd] at hli
  refine ⟨by have := h.kl; simp; omega, hk, ?_, (hli.keep ho).wtOff (upd_offs _ _ _), ?_⟩
  · simp only [upd_same]
    rw [h.wt, set_keep h.kl hk]
  · rw [look_wt nt _ B _ _ (upd_offs _ _ _), h.eq, hd]
    rw [show look nt B kept ((i, o) :: l.drop (k + 1)) = look nt B (kept ++ [(i, o)]) (l.drop (k + 1)) from by rw [look, if_pos (so_iff.2 ho)]]
/-- One whose watch is turned to another number. -/
theorem Lk.turn (h : Lk V nt D ch B0 l k kept B) (hl : l[k]? = some (i, o)) (ho : o ∉ B.st) {c c' : List Int} {o' x : Int} (hc : B.cl[i]? = some c) (htc : B.turnC nt c = (c', some x)) (ht : Turned B nt c c' o' (some x)) :
    Lk V nt D ch B0 l (k + 1) kept { B with cl := B.cl.set i c', wt := upd B.wt x (B.wt x ++ [(i, c'.getD 0 0)]) } := by
  have hk := (List.getElem?_eq_some_iff.1 hl).1
  have hd := Lk.dropK hl
  have hli := h.li
  rw [hd] at hli
  refine ⟨by have := h.kl; omega, hk, ?_, by rw [ht.fst]; exact hli.turn hc ht, ?_⟩
  · simp only
    rw [upd_ne _ _ (Ne.symm (ht.yes x rfl).2.2.1)]
    exact h.wt
  · rw [h.eq, hd]
    rw [look, if_neg (by rw [so_iff]; exact ho), getD_some hc, htc]
theorem Lk.stayLI (h : Lk V nt D ch B0 l k kept B) (hl : l[k]? = some (i, o)) {c c' : List Int} {o' : Int} (hc : B.cl[i]? = some c) (ht : Turned B nt c c' o' none) : LI V nt D ch { B with cl := B.cl.set i c' } kept ((i, o') :: l.drop (k + 1)) := by
  have hli := h.li
  rw [Lk.dropK hl] at hli
  exact hli.stay hc ht
/-- One that stays, and another number of it is so. -/
theorem Lk.stay (h : Lk V nt D ch B0 l k kept B) (hl : l[k]? = some (i, o)) (ho : o ∉ B.st) {c c' : List Int} {o' : Int} (hc : B.cl[i]? = some c) (htc : B.turnC nt c = (c', none)) (ht : Turned B nt c c' o' none) (h1 : -o' ∉ B.st) (h2 : o' ∈ B.st) :
    Lk V nt D ch B0 l (k + 1) (kept ++ [(i, o')]) { B with cl := B.cl.set i c', wt := upd B.wt nt ((B.wt nt).set kept.length (i, o')) } := by
  have hk := (List.getElem?_eq_some_iff.1 hl).1
  have hs := (h.stayLI hl hc ht).keep (o := o') h2
  refine ⟨by have := h.kl; simp; omega, hk, ?_, hs.wtOff (f := upd B.wt nt ((B.wt nt).set kept.length (i, o'))) (upd_offs _ _ _), ?_⟩
  · simp only [upd_same]
    rw [h.wt, set_keep h.kl hk]
  · rw [look_wt nt _ { B with cl := B.cl.set i c' } _ (upd B.wt nt ((B.wt nt).set kept.length (i, o'))) (upd_offs _ _ _), h.eq, Lk.dropK hl]
    rw [look, if_neg (by rw [so_iff]; exact ho), getD_some hc, htc]
    simp only [ht.fst]
    rw [if_neg (by rw [so_iff]; exact h1), if_pos (so_iff.2 h2)]
/-- One that stays, and the other number of it must be. -/
theorem Lk.put (h : Lk V nt D ch B0 l k kept B) (hl : l[k]? = some (i, o)) (ho : o ∉ B.st) {c c' : List Int} {o' : Int} (hc : B.cl[i]? = some c) (htc : B.turnC nt c = (c', none)) (ht : Turned B nt c c' o' none) (h1 : -o' ∉ B.st) (h2 : o' ∉ B.st) :
    Lk V nt D ch B0 l (k + 1) (kept ++ [(i, o')]) (({ B with cl := B.cl.set i c', wt := upd B.wt nt ((B.wt nt).set kept.length (i, o')) } : Bd).put o' i) := by
  have hk := (List.getElem?_eq_some_iff.1 hl).1
  have hs := h.stayLI hl hc ht
  have hm' : c' ∈ B.cl.set i c' := List.mem_of_getElem? (set_own (c' := c') hc)
  obtain ⟨hy, hor⟩ := ht.no rfl
  have hp := hs.put (k := (i : Int)) hm' (Wat.mem ((hy o').2 (.inl rfl))) h2 h1 (fun m hm hne => by
    by_cases e2 : m = nt
    · subst e2; exact h.li.nt
    · rcases hor with hor | hor
      · exact absurd hor h2
      · exact hor m hm hne e2)
  have hk2 := hp.keep (by rw [st_put]; simp)
  refine ⟨by have := h.kl; simp; omega, hk, ?_, hk2.wtOff (f := upd B.wt nt ((B.wt nt).set kept.length (i, o'))) (upd_offs _ _ _), ?_⟩
  · simp only [upd_same, Bd.put]
    rw [h.wt, set_keep h.kl hk]
  · have hx := look_wt nt (l.drop (k + 1)) (({ B with cl := B.cl.set i c' } : Bd).put o' i) (kept ++ [(i, o')]) (upd B.wt nt ((B.wt nt).set kept.length (i, o'))) (upd_offs _ _ _)
    refine Eq.trans ?_ hx.symm
    rw [h.eq, Lk.dropK hl]
    rw [look, if_neg (by rw [so_iff]; exact ho), getD_some hc, htc]
    simp only [ht.fst]
    rw [if_neg (by rw [so_iff]; exact h1), if_neg (by rw [so_iff]; exact h2)]
/-- One of which no number is so. -/
theorem Lk.fail (h : Lk V nt D ch B0 l k kept B) (hl : l[k]? = some (i, o)) (ho : o ∉ B.st) {c c' : List Int} {o' : Int} (hc : B.cl[i]? = some c) (htc : B.turnC nt c = (c', none)) (ht : Turned B nt c c' o' none) (h1 : -o' ∈ B.st) (f : Int → List (Nat × Int)) (hf : ∀ x, x ≠ nt → f x = B.wt x) :
    B0.lookAt nt = ({ B with cl := B.cl.set i c', wt := upd f nt ((kept ++ [(i, o')]) ++ l.drop (k + 1)) }, (i : Int)) := by
  rw [h.eq, Lk.dropK hl]
  rw [look, if_neg (by rw [so_iff]; exact ho), getD_some hc, htc]
  simp only [ht.fst]
  rw [if_pos (by rw [so_iff]; exact h1)]
  unfold lkEnd
  simp only [List.append_assoc, List.singleton_append]
  rw [upd_off hf]
/-- All were gone through. -/
theorem Lk.done (h : Lk V nt D ch B0 l k kept B) (hk : l.length ≤ k) : B0.lookAt nt = ({ B with wt := upd B.wt nt kept }, -1) := by
  rw [h.eq, List.drop_eq_nil_of_le hk]
  rfl
/-- What a clause that watches is. -/
theorem Lk.there (h : Lk V nt D ch B0 l k kept B) (hl : l[k]? = some (i, o)) : ∃ a b r, B.cl[i]? = some (a :: b :: r) ∧ Wat nt (a :: b :: r) ∧ (a :: b :: r).Nodup ∧ (a :: b :: r).length ≤ 200 ∧ (∀ x ∈ a :: b :: r, Num V x) ∧ o ∈ a :: b :: r := by
  have hli := h.li
  rw [Lk.dropK hl] at hli
  obtain ⟨c, h1, h2, h3, _⟩ := hli.wf.wi nt (i, o) (by simp [upd_same])
  simp only at h1
  obtain ⟨d1, d2, d3, d4⟩ := hli.wf.cl c (List.mem_of_getElem? h1)
  match c, h1, h2, h3, d1, d2, d3, d4 with
  | a :: b :: r, h1, h2, h3, d1, d2, d3, d4 => exact ⟨a, b, r, h1, h2, d1, d3, d4, h3⟩
end
theorem filter_both {α : Type} (p : α → Bool) (l : List α) : l.length = (l.filter p).length + (l.filter fun x => !p x).length := by
  induction l with
  | nil => rfl
  | cons a l ih => cases h : p a <;> simp [h] <;> omega
theorem nodup_nat : ∀ (n : Nat) (l : List Nat), l.Nodup → (∀ x ∈ l, x < n) → l.length ≤ n
  | 0, l, _, hx => by
    cases l with
    | nil => simp
    | cons a l => exact absurd (hx a (by simp)) (by omega)
  | n + 1, l, hn, hx => by
    have h1 := nodup_nat n (l.filter (fun x => x != n)) (hn.filter _) (fun x hxm => by
      obtain ⟨h1, h2⟩ := List.mem_filter.1 hxm
      have := hx x h1
      simp at h2
      omega)
    have h2 : l.length ≤ (l.filter (fun x => x != n)).length + 1 := by
      have h3 : (l.filter (fun x => x == n)).length ≤ 1 := by
        have hf := hn.filter (fun x => x == n)
        have ha : ∀ x ∈ l.filter (fun x => x == n), x = n := fun x hx => by simpa using (List.mem_filter.1 hx).2
        generalize l.filter (fun x => x == n) = m at hf ha
        match m, hf, ha with
        | [], _, _ => simp
        | [_], _, _ => simp
        | a :: b :: r, hf, ha =>
          have e1 := ha a (by simp)
          have e2 := ha b (by simp)
          simp [e1, e2] at hf
      have h4 := filter_both (fun x => x == n) l
      have h5 : (l.filter (fun x => !(x == n))).length = (l.filter (fun x => x != n)).length := rfl
      omega
    omega
theorem Wf.wtLen {V : Int} {B : Bd} (h : Wf V B) (n : Int) : (B.wt n).length ≤ B.cl.length := by
  have := nodup_nat B.cl.length ((B.wt n).map (·.1)) (h.wd n) (fun x hx => by
    obtain ⟨p, hp, rfl⟩ := List.mem_map.1 hx
    obtain ⟨c, hc, _⟩ := h.wi n p hp
    exact (List.getElem?_eq_some_iff.1 hc).1)
  simpa using this
theorem Wf.spLen {V : Int} {B : Bd} (h : Wf V B) (hV : V ≤ 200000) : B.sp.length ≤ 400001 := by
  have := nodup_len h.sn h.sr
  rw [st_len] at this
  omega
theorem Lk.wtLen {V nt : Int} {D : List Int} {ch : Int → Prop} {B0 B : Bd} {l : List (Nat × Int)} {k : Nat} {kept : List (Nat × Int)} (h : Lk V nt D ch B0 l k kept B) (m : Nat) (hl : l.length ≤ m) (hm : B.cl.length ≤ m) (n : Int) : (B.wt n).length ≤ m := by
  by_cases e : n = nt
  · rw [e, h.wt, List.length_append, List.length_drop]
    have := h.kl
    have := h.kk
    omega
  · have := h.li.wf.wtLen n
    simp only [upd_ne _ _ e] at this
    omega
end Go.Proofs.YtkinmangilbeeaaGreatDoor.Pf

namespace Go.Proofs.YtkinmangilbeeaaGreatDoor.Pf
open Go.RowKit Go.Maps Go.WideMaps
set_option maxRecDepth 100000

/-- What comes of a list when others are written over it from a place on. -/
def over (A : List (Nat × Int)) (k : Nat) : List (Nat × Int) → List (Nat × Int)
  | [] => A
  | p :: r => over (A.set k p) (k + 1) r
theorem over_len (r : List (Nat × Int)) : ∀ (A : List (Nat × Int)) (k : Nat), (over A k r).length = A.length := by
  induction r with
  | nil => intro A k; rfl
  | cons p r ih => intro A k; rw [over, ih, List.length_set]
theorem over_take (r : List (Nat × Int)) : ∀ (A : List (Nat × Int)) (k : Nat), k + r.length ≤ A.length → (over A k r).take (k + r.length) = A.take k ++ r := by
  induction r with
  | nil => intro A k h; simp [over]
  | cons p r ih =>
    intro A k h
    simp only [List.length_cons] at h
    rw [over, List.length_cons, show k + (r.length + 1) = (k + 1) + r.length by omega, ih _ _ (by rw [List.length_set]; omega)]
    have hk : k < A.length := by omega
    rw [List.take_set, List.take_succ_eq_append_getElem hk]
    rw [List.set_append_right _ _ (by rw [List.length_take]; omega), List.length_take, Nat.min_eq_left (by omega), Nat.sub_self]
    simp
theorem flatW_take (l : List (Nat × Int)) (m : Nat) : flatW (l.take m) = (flatW l).take (m * 2) := by
  induction l generalizing m with
  | nil => simp [flatW]
  | cons a l ih =>
    cases m with
    | zero => simp [flatW]
    | succ m => rw [List.take_succ_cons, flatW_cons, flatW_cons, ih, show (m + 1) * 2 = m * 2 + 1 + 1 by omega]; rfl
theorem row_takeW {w : World} {base : Nat} {p : Option Addr} {n c : Nat} {l : List (Nat × Int)} (h : w.ownsRow base 73 2 (.slice p n c) n (flatW l)) (hn : n = l.length) {m : Nat} (hm : m ≤ n) : w.ownsRow base 73 2 (.slice p m c) m (flatW (l.take m)) := by
  refine ⟨by rw [flatW_len, List.length_take]; omega, ?_⟩
  rcases h.2 with ⟨e, e0⟩ | ⟨g, cap, cur, e, hb, hg, h1, h2, h3, h4⟩
  · injection e with e1 e2 e3
    subst e1 e3
    exact .inl ⟨by rw [show m = 0 by omega], by omega⟩
  · injection e with e1 e2 e3
    subst e1 e3
    refine .inr ⟨g, c, cur, rfl, hb, hg, by omega, h2, h3, ?_⟩
    rw [flatW_take, ← h4, List.take_take, Nat.min_eq_left (by omega)]
theorem setCells_size (l : List Value) : ∀ (w : World) (g k : Nat), (w.setCells g k l).heap.size = w.heap.size := by
  induction l with
  | nil => intro w g k; rfl
  | cons a l ih => intro w g k; rw [World.setCells, ih, size_set]
section
variable {w : World} {X : Nat → Prop} {R S W nS nW : Nat} {vc vs : Value} {wk : Int} {cg cc : Nat → Nat} {wv : Int → Value} {B : Bd}
theorem Fr.sets (l : List Value) : ∀ {w : World} {g : Nat} (k : Nat), X g → Fr X w (w.setCells g k l) X := by
  induction l with
  | nil => intro w g k hg; exact Fr.refl _ _
  | cons a l ih => intro w g k hg; rw [World.setCells]; exact (Fr.set (q := ⟨g, k, none⟩) hg a).trans (ih (k + 1) hg)
theorem upd_twice {α : Type} (f : Int → α) (k : Int) (u v : α) : upd (upd f k u) k v = upd f k v := by
  funext x
  unfold upd
  split <;> rfl
theorem Mb.putWs {nt : Int} {g n0 cap : Nat} (hv : wv nt = .slice (some ⟨g, 0, none⟩) n0 cap) (r : List (Nat × Int)) : ∀ {w : World} {B : Bd} (k : Nat), Mb w X R S W nS nW vc vs wk cg cc wv B → Mb (w.setCells g (k * 2) (flatW r)) X R S W nS nW vc vs wk cg cc wv { B with wt := upd B.wt nt (over (B.wt nt) k r) } := by
  induction r with
  | nil => intro w B k h; simp only [flatW, List.flatMap_nil, over, World.setCells]; rw [upd_self]; exact h
  | cons p r ih =>
    intro w B k h
    have h1 := ih (k + 1) (h.putW hv k p)
    simp only [upd_same, upd_twice] at h1
    rw [flatW_cons]
    simp only [World.setCells]
    rw [show (k + 1) * 2 = k * 2 + 1 + 1 by omega] at h1
    exact h1
/-- Where those who watch a number lie. -/
theorem Mb.wtAt (h : Mb w X R S W nS nW vc vs wk cg cc wv B) {nt : Int} {j : Nat} (hj : j < (B.wt nt).length) : ∃ g cap, wv nt = .slice (some ⟨g, 0, none⟩) (B.wt nt).length cap ∧ (B.wt nt).length ≤ cap := by
  have hr := h.wl nt
  rcases hr.2 with ⟨_, h0⟩ | ⟨g, cap, cur, e, _, _, hc, _⟩
  · omega
  · exact ⟨g, cap, e, hc⟩
theorem Mb.wtCell (h : Mb w X R S W nS nW vc vs wk cg cc wv B) {nt : Int} {g n0 cap : Nat} (hv : wv nt = .slice (some ⟨g, 0, none⟩) n0 cap) {j : Nat} (hj : j < (B.wt nt).length) : w.cell? ⟨g, j * 2, none⟩ = some (.int .i64 (B.wt nt)[j].1) ∧ w.cell? ⟨g, j * 2 + 1, none⟩ = some (.int .i64 (B.wt nt)[j].2) := by
  have hr := h.wl nt
  rw [hv] at hr
  obtain ⟨a1, a2⟩ := flatW_at hj
  obtain rfl : n0 = (B.wt nt).length := by
    rcases hr.2 with ⟨e, e0⟩ | ⟨g', c, cur, e, _⟩
    · cases e
    · injection e
  have e1 := hr.cellAt (j * 2) (by show j * 2 < (B.wt nt).length * 2; omega)
  have e2 := hr.cellAt (j * 2 + 1) (by show j * 2 + 1 < (B.wt nt).length * 2; omega)
  rw [a1] at e1
  rw [a2] at e2
  exact ⟨e1, e2⟩
theorem Mb.wtFz (h : Mb w X R S W nS nW vc vs wk cg cc wv B) {nt : Int} {g n0 cap : Nat} (hv : wv nt = .slice (some ⟨g, 0, none⟩) n0 cap) (j : Nat) : w.frozen? ⟨g, j, none⟩ = false := by
  have hr := h.wl nt
  rw [hv] at hr
  rcases hr.2 with ⟨e, _⟩ | ⟨g', c, cur, e, _, hg, _⟩
  · cases e
  · injection e with e
    injection e with e
    injection e with e
    subst e
    exact Lib.frozen_of_heap hg j
/-- One more who watches is written behind those that are kept. -/
theorem Mb.appW (h : Mb w X R S W nS nW vc vs wk cg cc wv B) {nt : Int} {g n0 cap : Nat} (hv : wv nt = .slice (some ⟨g, 0, none⟩) n0 cap) {K : Nat} (hK : K < (B.wt nt).length) (i : Nat) (o : Int) :
    Mb ((w.alloc (.cells #[.int .i64 i, .int .i64 o] 73)).setCells g (K * 2) [.int .i64 i, .int .i64 o]) X R S W nS nW vc vs wk cg cc wv { B with wt := upd B.wt nt ((B.wt nt).set K (i, o)) } ∧ Fr X w ((w.alloc (.cells #[.int .i64 i, .int .i64 o] 73)).setCells g (K * 2) [.int .i64 i, .int .i64 o]) X ∧
      (∀ j, j < ([.int .i64 i, .int .i64 o] : List Value).length → ((w.alloc (.cells #[.int .i64 i, .int .i64 o] 73)).cell? ⟨g, K * 2 + j, none⟩).isSome = true) ∧ (∀ j, j < ([.int .i64 i, .int .i64 o] : List Value).length → (w.alloc (.cells #[.int .i64 i, .int .i64 o] 73)).frozen? ⟨g, K * 2 + j, none⟩ = false) := by
  have hal : Below w.heap.size w (w.alloc (.cells #[.int .i64 i, .int .i64 o] 73)) := bal (Below.refl _ _) _
  have h1 := h.later hal
  have hg : X g := h.xl nt g (by rw [hv]; rfl)
  obtain ⟨c0, c1⟩ := h1.wtCell hv hK
  refine ⟨h1.putWs hv [(i, o)] K, (Fr.quiet hal).trans (Fr.sets _ _ hg), fun j hj => ?_, fun j hj => h1.wtFz hv _⟩
  match j, hj with
  | 0, _ => rw [Nat.add_zero, c0]; rfl
  | 1, _ => rw [c1]; rfl
theorem flatW_drop (l : List (Nat × Int)) (m : Nat) : flatW (l.drop m) = (flatW l).drop (m * 2) := by
  induction l generalizing m with
  | nil => simp [flatW]
  | cons a l ih =>
    cases m with
    | zero => simp
    | succ m => rw [List.drop_succ_cons, flatW_cons, ih, show (m + 1) * 2 = m * 2 + 1 + 1 by omega]; rfl
/-- The rest of those who watch is written behind those that are kept. -/
theorem Mb.restW (h : Mb w X R S W nS nW vc vs wk cg cc wv B) {nt : Int} {g n0 cap : Nat} (hv : wv nt = .slice (some ⟨g, 0, none⟩) n0 cap) {K k : Nat} (hK : K ≤ k) (hk : k ≤ n0) :
    Mb (w.setCells g (K * 2) (flatW ((B.wt nt).drop k))) X R S W nS nW vc vs wk cg cc wv { B with wt := upd B.wt nt (over (B.wt nt) K ((B.wt nt).drop k)) } ∧ Fr X w (w.setCells g (K * 2) (flatW ((B.wt nt).drop k))) X ∧
      (flatW ((B.wt nt).drop k)).length = (n0 - k) * 2 ∧ (∀ j u, (flatW ((B.wt nt).drop k))[j]? = some u → w.cell? ((⟨g, k * 2, none⟩ : Addr).add j) = some u) ∧ (∀ u ∈ flatW ((B.wt nt).drop k), u.oneCell' = true) ∧
      (∀ j, j < (flatW ((B.wt nt).drop k)).length → (w.cell? ⟨g, K * 2 + j, none⟩).isSome = true) ∧ (∀ j, j < (flatW ((B.wt nt).drop k)).length → w.frozen? ⟨g, K * 2 + j, none⟩ = false) := by
  have hr := h.wl nt
  rw [hv] at hr
  obtain rfl : n0 = (B.wt nt).length := by
    rcases hr.2 with ⟨e, e0⟩ | ⟨g', c, cur, e, _⟩
    · cases e
    · injection e
  have hg : X g := h.xl nt g (by rw [hv]; rfl)
  have hlen : (flatW ((B.wt nt).drop k)).length = ((B.wt nt).length - k) * 2 := by rw [flatW_len, List.length_drop]
  refine ⟨h.putWs hv _ K, Fr.sets _ _ hg, hlen, fun j u hj => ?_, fun u hu => ?_, fun j hj => ?_, fun j hj => h.wtFz hv _⟩
  · have hj2 : j < ((B.wt nt).length - k) * 2 := by rw [← hlen]; exact (List.getElem?_eq_some_iff.1 hj).1
    have := hr.cellAt (k * 2 + j) (by show k * 2 + j < (B.wt nt).length * 2; omega)
    rw [flatW_drop, List.getElem?_drop] at hj
    rw [Addr.add_lit, this, hj]
  · unfold flatW at hu
    obtain ⟨p, _, hp⟩ := List.mem_flatMap.1 hu
    simp at hp
    rcases hp with rfl | rfl <;> rfl
  · rw [hlen] at hj
    have := hr.cellAt (K * 2 + j) (by show K * 2 + j < (B.wt nt).length * 2; omega)
    rw [this, List.getElem?_eq_getElem (by rw [flatW_len]; omega)]
    rfl
theorem Fr.newbox {w3 : World} {X3 : Nat → Prop} {bx : Nat} (h : Fr X w w3 X3) (hb : w.heap.size ≤ bx) (j : Nat) (u : Value) : Fr X w (w3.setCell ⟨bx, j, none⟩ u).drew X3 := by
  have hb0 : Below 0 w3 (w3.setCell ⟨bx, j, none⟩ u).drew := ((Below.refl 0 w3).setCell (Nat.zero_le _) u).drew
  exact ⟨hb0.os.trans h.os, hb0.tape.trans h.tape, hb0.output.trans h.output, Nat.le_trans h.size hb0.size, fun g hg hx => (Below.heap_setCell _ _ _ _ (by simp only [ne_eq]; omega)).trans (h.far g hg hx), h.to, h.fro⟩
/-- The list of those who watch is set down: the first part of what lies there. -/
theorem Mb.endW (h : Mb w X R S W nS nW vc vs wk cg cc wv B) (nt : Int) (hnt : Small nt) {p : Option Addr} {n0 cap : Nat} (hv : wv nt = .slice p n0 cap) (m : Nat) (hm : m ≤ n0) (hn : nW < maxLen) :
    ∃ w', (Instr.mapUpdate 63 (.map (some W)) (.int .i64 nt) (.slice p m cap)).run Tryz.prog w = .ok () w' ∧ Mb w' X R S W nS (nW + 1) vc vs wk cg cc (upd wv nt (.slice p m cap)) { B with wt := upd B.wt nt ((B.wt nt).take m) } ∧ Fr X w w' X := by
  have hr := h.wl nt
  rw [hv] at hr
  have hn0 : n0 = (B.wt nt).length := by
    rcases hr.2 with ⟨e, e0⟩ | ⟨g, c, cur, e, _⟩
    · injection e with _ e; omega
    · injection e
  subst hn0
  have hrow := row_takeW hr rfl hm
  have hsl := row_sl hrow
  have hwm := h.wm
  obtain ⟨D, hD, hDs⟩ := hwm
  obtain ⟨u', h1, h2, h3⟩ := hD.update law3 Tryz.underlying63 hn (key3 hnt) (slR_of hsl)
  have hnW : Value.ownBlock (wv nt) ≠ some W := row_nmap (h.wl nt) hD
  have hfar : ∀ g, g < w.heap.size → g ≠ W → u'.heap[g]? = w.heap[g]? := fun g hg hne => h3.block g hg (by simpa using hne)
  have hob : ∀ g, Value.ownBlock (.slice p m cap) = some g → (wv nt).ownBlock = some g := fun g hg => by
    rw [hv]
    cases p with
    | none => simp [Value.ownBlock] at hg
    | some a => simpa [Value.ownBlock] using hg
  refine ⟨u', h1, h.setWatch (fun g hg hne _ => hfar g hg hne) (fun _ e => e) (Wm.put hD.isMap hDs h2) ?_ (fun g hg => h.xl nt g (hob g hg)) (fun g hg => .inl (hob g hg)) (fun g hg => Nat.lt_of_lt_of_le (h.xb g hg) h3.size), ?_⟩
  · have hlt : ((B.wt nt).take m).length = m := by rw [List.length_take]; omega
    rw [hlt]
    refine row_same hrow fun g hg => hfar g ((h.wl nt).lt g (hob g hg)).2 fun e => ?_
    exact hnW (e ▸ hob g hg)
  · exact ⟨h3.os, h3.tape, h3.output, h3.size, fun g hg hx => hfar g hg (fun e => hx (e ▸ h.xw)), fun _ e => e, fun _ _ e => e⟩
end
end Go.Proofs.YtkinmangilbeeaaGreatDoor.Pf
