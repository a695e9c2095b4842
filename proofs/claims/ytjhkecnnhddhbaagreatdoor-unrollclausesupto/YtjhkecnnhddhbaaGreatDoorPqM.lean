/- A board: one who watches is written over, in place. -/
import Derived.Test.YtjhkecnnhddhbaaGreatDoorPiM
import Derived.ArgAppend
import Derived.Test.YtjhkecnnhddhbaaGreatDoorPbM
namespace Go.Proofs.YtjhkecnnhddhbaaGreatDoor.Pf
open Go.RowKit Go.Maps Go.WideMaps
set_option maxRecDepth 100000
theorem flatW_cons (a : Nat × Int) (l : List (Nat × Int)) : flatW (a :: l) = .int .i64 a.1 :: .int .i64 a.2 :: flatW l := by simp [flatW]
theorem flatW_len (l : List (Nat × Int)) : (flatW l).length = l.length * 2 := by
 induction l with
 | nil => rfl
 | cons a l ih => rw [flatW_cons]; simp only [List.length_cons, ih]; omega
theorem flatW_set (l : List (Nat × Int)) (k : Nat) (p : Nat × Int) : flatW (l.set k p) = ((flatW l).set (k * 2) (.int .i64 p.1)).set (k * 2 + 1) (.int .i64 p.2) := by
 induction l generalizing k with
 | nil => simp [flatW]
 | cons a l ih =>
   cases k with
   | zero => simp [flatW_cons]
   | succ k =>
     rw [List.set_cons_succ, flatW_cons, flatW_cons, ih, show (k + 1) * 2 = k * 2 + 1 + 1 by omega]
     rfl
theorem flatW_at {l : List (Nat × Int)} {j : Nat} (hj : j < l.length) : (flatW l)[j * 2]? = some (.int .i64 l[j].1) ∧ (flatW l)[j * 2 + 1]? = some (.int .i64 l[j].2) := by
 induction l generalizing j with
 | nil => simp at hj
 | cons a l ih =>
   rw [flatW_cons]
   cases j with
   | zero => simp
   | succ j =>
     have h := ih (j := j) (by simpa using hj)
     rw [show (j + 1) * 2 = j * 2 + 2 by omega]
     simpa using h
section
variable {w : World} {X : Nat → Prop} {R S W nS nW : Nat} {vc vs : Value} {wk : Int} {cg cc : Nat → Nat} {wv : Int → Value} {B : Bd}
theorem Mb.putW (h : Mb w X R S W nS nW vc vs wk cg cc wv B) {nt : Int} {g n0 cap : Nat} (hv : wv nt = .slice (some ⟨g, 0, none⟩) n0 cap) (k : Nat) (p : Nat × Int) :
   Mb ((w.setCell ⟨g, k * 2, none⟩ (.int .i64 p.1)).setCell ⟨g, k * 2 + 1, none⟩ (.int .i64 p.2)) X R S W nS nW vc vs wk cg cc wv { B with wt := upd B.wt nt ((B.wt nt).set k p) } := by
 have hwm := h.wm
 obtain ⟨D, h1, h2⟩ := hwm
 have hrow := h.wl nt
 rw [hv] at hrow
 have hgW : W ≠ g := fun e => row_nmap hrow h1 (by rw [e]; rfl)
 have hself : upd wv nt (wv nt) = wv := by
   funext x
   unfold upd
   split
   · rename_i e; rw [e]
   · rfl
 have far : ∀ k', k' ≠ g → ((w.setCell ⟨g, k * 2, none⟩ (.int .i64 p.1)).setCell ⟨g, k * 2 + 1, none⟩ (.int .i64 p.2)).heap[k']? = w.heap[k']? := fun k' hk' => (Below.heap_setCell _ _ _ _ hk').trans (Below.heap_setCell _ _ _ _ hk')
 have hm := h.setWatch (w3 := (w.setCell ⟨g, k * 2, none⟩ (.int .i64 p.1)).setCell ⟨g, k * 2 + 1, none⟩ (.int .i64 p.2)) (X' := X) (nW' := nW) (n := nt) (v' := wv nt) (l' := (B.wt nt).set k p)
   (fun g' _ _ hne => far g' (fun e => hne (by rw [hv, e]; rfl))) (fun _ e => e) (by rw [hself]; exact h.wm.same (far W hgW)) ?_ (fun g' e => h.xl nt g' e) (fun g' e => .inl e) (fun g' e => by rw [size_set, size_set]; exact h.xb g' e)
 · rw [hself] at hm
   exact hm
 · rw [hv, List.length_set]
   refine ⟨by rw [flatW_len, List.length_set], ?_⟩
   rcases hrow.2 with ⟨e, _⟩ | ⟨g', c, cur, e, hb, hg, e1, e2, e3, e4⟩
   · cases e
   · injection e with a1 a2 a3
     injection a1 with a1
     injection a1 with a1
     subst a1 a2 a3
     refine .inr ⟨g, cap, (cur.setIfInBounds (k * 2) (.int .i64 p.1)).setIfInBounds (k * 2 + 1) (.int .i64 p.2), rfl, Nat.zero_le _, heap_setCell_same _ _ _ _ _ _ (heap_setCell_same _ _ _ _ _ _ hg), e1, e2, by simpa using e3, ?_⟩
     rw [Array.toList_setIfInBounds, Array.toList_setIfInBounds, List.take_set, List.take_set, e4, flatW_set]
end
end Go.Proofs.YtjhkecnnhddhbaaGreatDoor.Pf

namespace Go.Proofs.YtjhkecnnhddhbaaGreatDoor.Pf
open Go.RowKit Go.Maps Go.WideMaps
set_option maxRecDepth 100000
theorem wpList_append_in (w : World) {ops : Array Oper} {rest : List Oper} {o : Oper} {a : Act} {Q : Exit → Act → World → Prop} (hg : o.guard = none) (s x : Operand) (hop : o.op = Op.call { callee := Callee.builtin Builtin.append, args := #[s, x], argTypes := #[230, 230] })
   (g len cap : Nat) (hs : a.eval s = .slice (some ⟨g, 0, none⟩) len cap) (ad : Addr) (m c : Nat) (news : List Value) (hx : a.eval x = .slice (some ad) m c) (hl : news.length = m * 2) (hnews : ∀ j u, news[j]? = some u → w.cell? (ad.add j) = some u) (h1 : ∀ u ∈ news, u.oneCell' = true)
   (hroom : len + m ≤ cap) (hc : ∀ j, j < news.length → (w.cell? ⟨g, len * 2 + j, none⟩).isSome = true) (hf : ∀ j, j < news.length → w.frozen? ⟨g, len * 2 + j, none⟩ = false)
   (hK : wpList Tryz.prog ops Q rest (a.put o.dst (.slice (some ⟨g, 0, none⟩) (len + m) cap)) (w.setCells g (len * 2) news)) : wpList Tryz.prog ops Q (o :: rest) a w := by
 obtain ⟨i0, hi, hz0, hz1, hz2⟩ := info_parts info120
 have hrun := run_append_room_cells (P := Tryz.prog) w 230 o.type 229 i0 Tryz.underlying230 hi g 0 len cap ad m c news (by rw [hz1]; exact hl) hnews h1 hroom (by rw [hz1]; simpa using hc) (by rw [hz1]; simpa using hf)
 rw [hz1, Nat.zero_add] at hrun
 refine wpList_plain hg fun K' hK' => ?_
 unfold Oper.wp
 simp [execOp, hop, resolve, invoke, builtin, hs, hx, hrun, Result.andThen]
 exact hK' _ _ hK
end Go.Proofs.YtjhkecnnhddhbaaGreatDoor.Pf

namespace Go.Proofs.YtjhkecnnhddhbaaGreatDoor.Pf
theorem mem_getD {l : List Int} {x : Int} (h : x ∈ l) : ∃ j, j < l.length ∧ l.getD j 0 = x := by
 obtain ⟨j, hj, e⟩ := List.getElem_of_mem h
 exact ⟨j, hj, by rw [List.getD, List.getElem?_eq_getElem hj, e]; rfl⟩
theorem nodup_len {V : Int} {l : List Int} (hn : l.Nodup) (hx : ∀ x ∈ l, Num V x) : l.length ≤ (2 * V + 1).toNat := by
 have hsub : (l.map fun x => (x + V).toNat).Nodup := by
   rw [List.nodup_iff_pairwise_ne, List.pairwise_map]
   rw [List.nodup_iff_pairwise_ne] at hn
   refine hn.imp_of_mem ?_
   intro a b ha hb hab e
   have h1 := hx a ha
   have h2 := hx b hb
   exact hab (by have := h1.2.1; have := h2.2.1; omega)
 have hin : ∀ y ∈ l.map (fun x => (x + V).toNat), y ∈ List.range (2 * V + 1).toNat := fun y hy => by
   obtain ⟨x, hxl, rfl⟩ := List.mem_map.1 hy
   have h1 := hx x hxl
   rw [List.mem_range]
   have := h1.2.1; have := h1.2.2
   omega
 have := hsub.length_le_of_subset hin
 simpa using this
end Go.Proofs.YtjhkecnnhddhbaaGreatDoor.Pf

namespace Go.Proofs.YtjhkecnnhddhbaaGreatDoor.Pf
def lkEnd (nt : Int) (r : Bd × List (Nat × Int) × Int) : Bd × Int := ({ r.1 with wt := upd r.1.wt nt r.2.1 }, r.2.2)
theorem lookAt_eq (B : Bd) (nt : Int) : B.lookAt nt = lkEnd nt (look nt B [] (B.wt nt)) := rfl
theorem upd_off {α : Type} {f g : Int → α} {k : Int} (h : ∀ x, x ≠ k → f x = g x) (v : α) : upd f k v = upd g k v := by
 funext x
 by_cases e : x = k
 · subst e; rw [upd_same, upd_same]
 · rw [upd_ne _ _ e, upd_ne _ _ e, h x e]
theorem look_wt (nt : Int) (rest : List (Nat × Int)) : ∀ (B : Bd) (kept : List (Nat × Int)) (f : Int → List (Nat × Int)), (∀ x, x ≠ nt → f x = B.wt x) → lkEnd nt (look nt { B with wt := f } kept rest) = lkEnd nt (look nt B kept rest) := by
 induction rest with
 | nil => intro B kept f hf; unfold look lkEnd; simp only; rw [upd_off hf]
 | cons p rest ih =>
   obtain ⟨i, o⟩ := p
   intro B kept f hf
   unfold look
   have h1 : ∀ n, ({ B with wt := f } : Bd).so n = B.so n := fun n => rfl
   have h2 : ∀ c, ({ B with wt := f } : Bd).turnC nt c = B.turnC nt c := fun c => by
     match c with
     | [] => rfl
     | [a] => rfl
     | a :: b :: r => rfl
   simp only [h1, h2]
   by_cases ho : B.so o = true
   · simp only [ho, if_true]
     exact ih B _ f hf
   · simp only [ho, if_false, Bool.false_eq_true]
     cases htc : B.turnC nt (B.cl.getD i []) with
     | mk c' t =>
       cases t with
       | some x =>
         simp only
         refine ih { B with cl := B.cl.set i c', wt := upd B.wt x (B.wt x ++ [(i, c'.getD 0 0)]) } kept _ fun y hy => ?_
         by_cases e : y = x
         · subst e; simp only [upd_same]; rw [hf y hy]
         · simp only [upd_ne _ _ e]; exact hf y hy
       | none =>
         simp only
         by_cases h3 : B.so (-(c'.getD 0 0)) = true
         · simp only [h3, if_true]
           unfold lkEnd; simp only; rw [upd_off hf]
         · simp only [h3, if_false, Bool.false_eq_true]
           by_cases h4 : B.so (c'.getD 0 0) = true
           · simp only [h4, if_true]
             exact ih { B with cl := B.cl.set i c' } _ f hf
           · simp only [h4, if_false, Bool.false_eq_true]
             exact ih (({ B with cl := B.cl.set i c' } : Bd).put (c'.getD 0 0) i) _ f hf
theorem LI.wtOff {V nt : Int} {D : List Int} {ch : Int → Prop} {B : Bd} {kept rest : List (Nat × Int)} (h : LI V nt D ch B kept rest) {f : Int → List (Nat × Int)} (hf : ∀ x, x ≠ nt → f x = B.wt x) : LI V nt D ch { B with wt := f } kept rest := by
 refine ⟨?_, h.nt, ⟨h.cmp.one, h.cmp.dn, h.cmp.dz⟩, h.ds, ⟨h.snd.st, h.snd.zs⟩, h.kd, h.le⟩
 simp only
 rw [upd_off hf]
 exact h.wf
structure Lk (V nt : Int) (D : List Int) (ch : Int → Prop) (B0 : Bd) (l : List (Nat × Int)) (k : Nat) (kept : List (Nat × Int)) (B : Bd) : Prop where
 kl : kept.length ≤ k
 kk : k ≤ l.length
 wt : B.wt nt = kept ++ l.drop kept.length
 li : LI V nt D ch B kept (l.drop k)
 eq : B0.lookAt nt = lkEnd nt (look nt B kept (l.drop k))
theorem Lk.begin {V nt : Int} {D : List Int} {ch : Int → Prop} {B0 : Bd} (h : LI V nt D ch B0 [] (B0.wt nt)) : Lk V nt D ch B0 (B0.wt nt) 0 [] B0 := ⟨Nat.le_refl _, Nat.zero_le _, by simp, by simpa using h, by simpa using lookAt_eq B0 nt⟩
theorem set_keep {l kept : List (Nat × Int)} {k : Nat} (hk : kept.length ≤ k) (hl : k < l.length) (p : Nat × Int) : (kept ++ l.drop kept.length).set kept.length p = (kept ++ [p]) ++ l.drop (kept ++ [p]).length := by
 rw [List.set_append_right _ _ (Nat.le_refl _), Nat.sub_self, List.append_assoc, List.length_append, List.length_singleton]
 congr 1
 rw [List.drop_eq_getElem_cons (show kept.length < l.length by omega)]
 rfl
section
variable {V nt : Int} {D : List Int} {ch : Int → Prop} {B0 B : Bd} {l : List (Nat × Int)} {k : Nat} {kept : List (Nat × Int)} {i : Nat} {o : Int}
theorem Lk.dropK (hl : l[k]? = some (i, o)) : l.drop k = (i, o) :: l.drop (k + 1) := by
 obtain ⟨h1, h2⟩ := List.getElem?_eq_some_iff.1 hl
 rw [List.drop_eq_getElem_cons h1, h2]
theorem upd_offs {α : Type} (f : Int → α) (k : Int) (v : α) : ∀ x, x ≠ k → upd f k v x = f x := fun _ h => upd_ne _ _ h
theorem Lk.keep (h : Lk V nt D ch B0 l k kept B) (hl : l[k]? = some (i, o)) (ho : o ∈ B.st) : Lk V nt D ch B0 l (k + 1) (kept ++ [(i, o)]) { B with wt := upd B.wt nt ((B.wt nt).set kept.length (i, o)) } := by
 have hk := (List.getElem?_eq_some_iff.1 hl).1
 have hd := Lk.dropK hl
 have hli := h.li
 rw [hd] at hli
 refine ⟨by have := h.kl; simp; omega, hk, ?_, (hli.keep ho).wtOff (upd_offs _ _ _), ?_⟩
 · simp only [upd_same]
   rw [h.wt, set_keep h.kl hk]
 · rw [look_wt nt _ B _ _ (upd_offs _ _ _), h.eq, hd]
   rw [show look nt B kept ((i, o) :: l.drop (k + 1)) = look nt B (kept ++ [(i, o)]) (l.drop (k + 1)) from by rw [look, if_pos (so_iff.2 ho)]]
theorem Lk.turn (h : Lk V nt D ch B0 l k kept B) (hl : l[k]? = some (i, o)) (ho : o ∉ B.st) {c c' : List Int} {o' x : Int} (hc : B.cl[i]? = some c) (htc : B.turnC nt c = (c', some x)) (ht : Turned B nt c c' o' (some x)) :
   Lk V nt D ch B0 l (k + 1) kept { B with cl := B.cl.set i c', wt := upd B.wt x (B.wt x ++ [(i, c'.getD 0 0)]) } := by
 have hk := (List.getElem?_eq_some_iff.1 hl).1
 have hd := Lk.dropK hl
 have hli := h.li
 rw [hd] at hli
 refine ⟨by have := h.kl; omega, hk, ?_, by rw [ht.fst]; exact hli.turn hc ht, ?_⟩
 · simp only
   rw [upd_ne _ _ (Ne.symm (ht.yes x rfl).2.2.1)]
   exact h.wt
 · rw [h.eq, hd]
   rw [look, if_neg (by rw [so_iff]; exact ho), getD_some hc, htc]
theorem Lk.stayLI (h : Lk V nt D ch B0 l k kept B) (hl : l[k]? = some (i, o)) {c c' : List Int} {o' : Int} (hc : B.cl[i]? = some c) (ht : Turned B nt c c' o' none) : LI V nt D ch { B with cl := B.cl.set i c' } kept ((i, o') :: l.drop (k + 1)) := by
 have hli := h.li
 rw [Lk.dropK hl] at hli
 exact hli.stay hc ht
theorem Lk.stay (h : Lk V nt D ch B0 l k kept B) (hl : l[k]? = some (i, o)) (ho : o ∉ B.st) {c c' : List Int} {o' : Int} (hc : B.cl[i]? = some c) (htc : B.turnC nt c = (c', none)) (ht : Turned B nt c c' o' none) (h1 : -o' ∉ B.st) (h2 : o' ∈ B.st) :
   Lk V nt D ch B0 l (k + 1) (kept ++ [(i, o')]) { B with cl := B.cl.set i c', wt := upd B.wt nt ((B.wt nt).set kept.length (i, o')) } := by
 have hk := (List.getElem?_eq_some_iff.1 hl).1
 have hs := (h.stayLI hl hc ht).keep (o := o') h2
 refine ⟨by have := h.kl; simp; omega, hk, ?_, hs.wtOff (f := upd B.wt nt ((B.wt nt).set kept.length (i, o'))) (upd_offs _ _ _), ?_⟩
 · simp only [upd_same]
   rw [h.wt, set_keep h.kl hk]
 · rw [look_wt nt _ { B with cl := B.cl.set i c' } _ (upd B.wt nt ((B.wt nt).set kept.length (i, o'))) (upd_offs _ _ _), h.eq, Lk.dropK hl]
   rw [look, if_neg (by rw [so_iff]; exact ho), getD_some hc, htc]
   simp only [ht.fst]
   rw [if_neg (by rw [so_iff]; exact h1), if_pos (so_iff.2 h2)]
theorem Lk.put (h : Lk V nt D ch B0 l k kept B) (hl : l[k]? = some (i, o)) (ho : o ∉ B.st) {c c' : List Int} {o' : Int} (hc : B.cl[i]? = some c) (htc : B.turnC nt c = (c', none)) (ht : Turned B nt c c' o' none) (h1 : -o' ∉ B.st) (h2 : o' ∉ B.st) :
   Lk V nt D ch B0 l (k + 1) (kept ++ [(i, o')]) (({ B with cl := B.cl.set i c', wt := upd B.wt nt ((B.wt nt).set kept.length (i, o')) } : Bd).put o' i) := by
 have hk := (List.getElem?_eq_some_iff.1 hl).1
 have hs := h.stayLI hl hc ht
 have hm' : c' ∈ B.cl.set i c' := List.mem_of_getElem? (set_own (c' := c') hc)
 obtain ⟨hy, hor⟩ := ht.no rfl
 have hp := hs.put (k := (i : Int)) hm' (Wat.mem ((hy o').2 (.inl rfl))) h2 h1 (fun m hm hne => by
   by_cases e2 : m = nt
   · subst e2; exact h.li.nt
   · rcases hor with hor | hor
     · exact absurd hor h2
     · exact hor m hm hne e2)
 have hk2 := hp.keep (by rw [st_put]; simp)
 refine ⟨by have := h.kl; simp; omega, hk, ?_, hk2.wtOff (f := upd B.wt nt ((B.wt nt).set kept.length (i, o'))) (upd_offs _ _ _), ?_⟩
 · simp only [upd_same, Bd.put]
   rw [h.wt, set_keep h.kl hk]
 · have hx := look_wt nt (l.drop (k + 1)) (({ B with cl := B.cl.set i c' } : Bd).put o' i) (kept ++ [(i, o')]) (upd B.wt nt ((B.wt nt).set kept.length (i, o'))) (upd_offs _ _ _)
   refine Eq.trans ?_ hx.symm
   rw [h.eq, Lk.dropK hl]
   rw [look, if_neg (by rw [so_iff]; exact ho), getD_some hc, htc]
   simp only [ht.fst]
   rw [if_neg (by rw [so_iff]; exact h1), if_neg (by rw [so_iff]; exact h2)]
theorem Lk.fail (h : Lk V nt D ch B0 l k kept B) (hl : l[k]? = some (i, o)) (ho : o ∉ B.st) {c c' : List Int} {o' : Int} (hc : B.cl[i]? = some c) (htc : B.turnC nt c = (c', none)) (ht : Turned B nt c c' o' none) (h1 : -o' ∈ B.st) (f : Int → List (Nat × Int)) (hf : ∀ x, x ≠ nt → f x = B.wt x) :
   B0.lookAt nt = ({ B with cl := B.cl.set i c', wt := upd f nt ((kept ++ [(i, o')]) ++ l.drop (k + 1)) }, (i : Int)) := by
 rw [h.eq, Lk.dropK hl]
 rw [look, if_neg (by rw [so_iff]; exact ho), getD_some hc, htc]
 simp only [ht.fst]
 rw [if_pos (by rw [so_iff]; exact h1)]
 unfold lkEnd
 simp only [List.append_assoc, List.singleton_append]
 rw [upd_off hf]
theorem Lk.done (h : Lk V nt D ch B0 l k kept B) (hk : l.length ≤ k) : B0.lookAt nt = ({ B with wt := upd B.wt nt kept }, -1) := by
 rw [h.eq, List.drop_eq_nil_of_le hk]
 rfl
theorem Lk.there (h : Lk V nt D ch B0 l k kept B) (hl : l[k]? = some (i, o)) : ∃ a b r, B.cl[i]? = some (a :: b :: r) ∧ Wat nt (a :: b :: r) ∧ (a :: b :: r).Nodup ∧ (a :: b :: r).length ≤ 200 ∧ (∀ x ∈ a :: b :: r, Num V x) ∧ o ∈ a :: b :: r := by
 have hli := h.li
 rw [Lk.dropK hl] at hli
 obtain ⟨c, h1, h2, h3, _⟩ := hli.wf.wi nt (i, o) (by simp [upd_same])
 simp only at h1
 obtain ⟨d1, d2, d3, d4⟩ := hli.wf.cl c (List.mem_of_getElem? h1)
 match c, h1, h2, h3, d1, d2, d3, d4 with
 | a :: b :: r, h1, h2, h3, d1, d2, d3, d4 => exact ⟨a, b, r, h1, h2, d1, d3, d4, h3⟩
end
theorem filter_both {α : Type} (p : α → Bool) (l : List α) : l.length = (l.filter p).length + (l.filter fun x => !p x).length := by
 induction l with
 | nil => rfl
 | cons a l ih => cases h : p a <;> simp [h] <;> omega
theorem nodup_nat : ∀ (n : Nat) (l : List Nat), l.Nodup → (∀ x ∈ l, x < n) → l.length ≤ n
 | 0, l, _, hx => by
   cases l with
   | nil => simp
   | cons a l => exact absurd (hx a (by simp)) (by omega)
 | n + 1, l, hn, hx => by
   have h1 := nodup_nat n (l.filter (fun x => x != n)) (hn.filter _) (fun x hxm => by
     obtain ⟨h1, h2⟩ := List.mem_filter.1 hxm
     have := hx x h1
     simp at h2
     omega)
   have h2 : l.length ≤ (l.filter (fun x => x != n)).length + 1 := by
     have h3 : (l.filter (fun x => x == n)).length ≤ 1 := by
       have hf := hn.filter (fun x => x == n)
       have ha : ∀ x ∈ l.filter (fun x => x == n), x = n := fun x hx => by simpa using (List.mem_filter.1 hx).2
       generalize l.filter (fun x => x == n) = m at hf ha
       match m, hf, ha with
       | [], _, _ => simp
       | [_], _, _ => simp
       | a :: b :: r, hf, ha =>
         have e1 := ha a (by simp)
         have e2 := ha b (by simp)
         simp [e1, e2] at hf
     have h4 := filter_both (fun x => x == n) l
     have h5 : (l.filter (fun x => !(x == n))).length = (l.filter (fun x => x != n)).length := rfl
     omega
   omega
theorem Wf.wtLen {V : Int} {B : Bd} (h : Wf V B) (n : Int) : (B.wt n).length ≤ B.cl.length := by
 have := nodup_nat B.cl.length ((B.wt n).map (·.1)) (h.wd n) (fun x hx => by
   obtain ⟨p, hp, rfl⟩ := List.mem_map.1 hx
   obtain ⟨c, hc, _⟩ := h.wi n p hp
   exact (List.getElem?_eq_some_iff.1 hc).1)
 simpa using this
theorem Wf.spLen {V : Int} {B : Bd} (h : Wf V B) (hV : V ≤ 200000) : B.sp.length ≤ 400001 := by
 have := nodup_len h.sn h.sr
 rw [st_len] at this
 omega
theorem Lk.wtLen {V nt : Int} {D : List Int} {ch : Int → Prop} {B0 B : Bd} {l : List (Nat × Int)} {k : Nat} {kept : List (Nat × Int)} (h : Lk V nt D ch B0 l k kept B) (m : Nat) (hl : l.length ≤ m) (hm : B.cl.length ≤ m) (n : Int) : (B.wt n).length ≤ m := by
 by_cases e : n = nt
 · rw [e, h.wt, List.length_append, List.length_drop]
   have := h.kl
   have := h.kk
   omega
 · have := h.li.wf.wtLen n
   simp only [upd_ne _ _ e] at this
   omega
end Go.Proofs.YtjhkecnnhddhbaaGreatDoor.Pf

namespace Go.Proofs.YtjhkecnnhddhbaaGreatDoor.Pf
open Go.RowKit Go.Maps Go.WideMaps
set_option maxRecDepth 100000
def over (A : List (Nat × Int)) (k : Nat) : List (Nat × Int) → List (Nat × Int)
 | [] => A
 | p :: r => over (A.set k p) (k + 1) r
theorem over_take (r : List (Nat × Int)) : ∀ (A : List (Nat × Int)) (k : Nat), k + r.length ≤ A.length → (over A k r).take (k + r.length) = A.take k ++ r := by
 induction r with
 | nil => intro A k h; simp [over]
 | cons p r ih =>
   intro A k h
   simp only [List.length_cons] at h
   rw [over, List.length_cons, show k + (r.length + 1) = (k + 1) + r.length by omega, ih _ _ (by rw [List.length_set]; omega)]
   have hk : k < A.length := by omega
   rw [List.take_set, List.take_succ_eq_append_getElem hk]
   rw [List.set_append_right _ _ (by rw [List.length_take]; omega), List.length_take, Nat.min_eq_left (by omega), Nat.sub_self]
   simp
theorem flatW_take (l : List (Nat × Int)) (m : Nat) : flatW (l.take m) = (flatW l).take (m * 2) := by
 induction l generalizing m with
 | nil => simp [flatW]
 | cons a l ih =>
   cases m with
   | zero => simp [flatW]
   | succ m => rw [List.take_succ_cons, flatW_cons, flatW_cons, ih, show (m + 1) * 2 = m * 2 + 1 + 1 by omega]; rfl
theorem row_takeW {w : World} {base : Nat} {p : Option Addr} {n c : Nat} {l : List (Nat × Int)} (h : w.ownsRow base 229 2 (.slice p n c) n (flatW l)) (hn : n = l.length) {m : Nat} (hm : m ≤ n) : w.ownsRow base 229 2 (.slice p m c) m (flatW (l.take m)) := by
 refine ⟨by rw [flatW_len, List.length_take]; omega, ?_⟩
 rcases h.2 with ⟨e, e0⟩ | ⟨g, cap, cur, e, hb, hg, h1, h2, h3, h4⟩
 · injection e with e1 e2 e3
   subst e1 e3
   exact .inl ⟨by rw [show m = 0 by omega], by omega⟩
 · injection e with e1 e2 e3
   subst e1 e3
   refine .inr ⟨g, c, cur, rfl, hb, hg, by omega, h2, h3, ?_⟩
   rw [flatW_take, ← h4, List.take_take, Nat.min_eq_left (by omega)]
section
variable {w : World} {X : Nat → Prop} {R S W nS nW : Nat} {vc vs : Value} {wk : Int} {cg cc : Nat → Nat} {wv : Int → Value} {B : Bd}
theorem Fr.sets (l : List Value) : ∀ {w : World} {g : Nat} (k : Nat), X g → Fr X w (w.setCells g k l) X := by
 induction l with
 | nil => intro w g k hg; exact Fr.refl _ _
 | cons a l ih => intro w g k hg; rw [World.setCells]; exact (Fr.set (q := ⟨g, k, none⟩) hg a).trans (ih (k + 1) hg)
theorem upd_twice {α : Type} (f : Int → α) (k : Int) (u v : α) : upd (upd f k u) k v = upd f k v := by
 funext x
 unfold upd
 split <;> rfl
theorem Mb.putWs {nt : Int} {g n0 cap : Nat} (hv : wv nt = .slice (some ⟨g, 0, none⟩) n0 cap) (r : List (Nat × Int)) : ∀ {w : World} {B : Bd} (k : Nat), Mb w X R S W nS nW vc vs wk cg cc wv B → Mb (w.setCells g (k * 2) (flatW r)) X R S W nS nW vc vs wk cg cc wv { B with wt := upd B.wt nt (over (B.wt nt) k r) } := by
 induction r with
 | nil => intro w B k h; simp only [flatW, List.flatMap_nil, over, World.setCells]; rw [upd_self]; exact h
 | cons p r ih =>
   intro w B k h
   have h1 := ih (k + 1) (h.putW hv k p)
   simp only [upd_same, upd_twice] at h1
   rw [flatW_cons]
   simp only [World.setCells]
   rw [show (k + 1) * 2 = k * 2 + 1 + 1 by omega] at h1
   exact h1
theorem Mb.wtAt (h : Mb w X R S W nS nW vc vs wk cg cc wv B) {nt : Int} {j : Nat} (hj : j < (B.wt nt).length) : ∃ g cap, wv nt = .slice (some ⟨g, 0, none⟩) (B.wt nt).length cap ∧ (B.wt nt).length ≤ cap := by
 have hr := h.wl nt
 rcases hr.2 with ⟨_, h0⟩ | ⟨g, cap, cur, e, _, _, hc, _⟩
 · omega
 · exact ⟨g, cap, e, hc⟩
theorem Mb.wtCell (h : Mb w X R S W nS nW vc vs wk cg cc wv B) {nt : Int} {g n0 cap : Nat} (hv : wv nt = .slice (some ⟨g, 0, none⟩) n0 cap) {j : Nat} (hj : j < (B.wt nt).length) : w.cell? ⟨g, j * 2, none⟩ = some (.int .i64 (B.wt nt)[j].1) ∧ w.cell? ⟨g, j * 2 + 1, none⟩ = some (.int .i64 (B.wt nt)[j].2) := by
 have hr := h.wl nt
 rw [hv] at hr
 obtain ⟨a1, a2⟩ := flatW_at hj
 obtain rfl : n0 = (B.wt nt).length := by
   rcases hr.2 with ⟨e, e0⟩ | ⟨g', c, cur, e, _⟩
   · cases e
   · injection e
 have e1 := hr.cellAt (j * 2) (by show j * 2 < (B.wt nt).length * 2; omega)
 have e2 := hr.cellAt (j * 2 + 1) (by show j * 2 + 1 < (B.wt nt).length * 2; omega)
 rw [a1] at e1
 rw [a2] at e2
 exact ⟨e1, e2⟩
theorem Mb.wtFz (h : Mb w X R S W nS nW vc vs wk cg cc wv B) {nt : Int} {g n0 cap : Nat} (hv : wv nt = .slice (some ⟨g, 0, none⟩) n0 cap) (j : Nat) : w.frozen? ⟨g, j, none⟩ = false := by
 have hr := h.wl nt
 rw [hv] at hr
 rcases hr.2 with ⟨e, _⟩ | ⟨g', c, cur, e, _, hg, _⟩
 · cases e
 · injection e with e
   injection e with e
   injection e with e
   subst e
   exact Lib.frozen_of_heap hg j
theorem Mb.appW (h : Mb w X R S W nS nW vc vs wk cg cc wv B) {nt : Int} {g n0 cap : Nat} (hv : wv nt = .slice (some ⟨g, 0, none⟩) n0 cap) {K : Nat} (hK : K < (B.wt nt).length) (i : Nat) (o : Int) :
   Mb ((w.alloc (.cells #[.int .i64 i, .int .i64 o] 229)).setCells g (K * 2) [.int .i64 i, .int .i64 o]) X R S W nS nW vc vs wk cg cc wv { B with wt := upd B.wt nt ((B.wt nt).set K (i, o)) } ∧ Fr X w ((w.alloc (.cells #[.int .i64 i, .int .i64 o] 229)).setCells g (K * 2) [.int .i64 i, .int .i64 o]) X ∧
     (∀ j, j < ([.int .i64 i, .int .i64 o] : List Value).length → ((w.alloc (.cells #[.int .i64 i, .int .i64 o] 229)).cell? ⟨g, K * 2 + j, none⟩).isSome = true) ∧ (∀ j, j < ([.int .i64 i, .int .i64 o] : List Value).length → (w.alloc (.cells #[.int .i64 i, .int .i64 o] 229)).frozen? ⟨g, K * 2 + j, none⟩ = false) := by
 have hal : Below w.heap.size w (w.alloc (.cells #[.int .i64 i, .int .i64 o] 229)) := bal (Below.refl _ _) _
 have h1 := h.later hal
 have hg : X g := h.xl nt g (by rw [hv]; rfl)
 obtain ⟨c0, c1⟩ := h1.wtCell hv hK
 refine ⟨h1.putWs hv [(i, o)] K, (Fr.quiet hal).trans (Fr.sets _ _ hg), fun j hj => ?_, fun j hj => h1.wtFz hv _⟩
 match j, hj with
 | 0, _ => rw [Nat.add_zero, c0]; rfl
 | 1, _ => rw [c1]; rfl
theorem flatW_drop (l : List (Nat × Int)) (m : Nat) : flatW (l.drop m) = (flatW l).drop (m * 2) := by
 induction l generalizing m with
 | nil => simp [flatW]
 | cons a l ih =>
   cases m with
   | zero => simp
   | succ m => rw [List.drop_succ_cons, flatW_cons, ih, show (m + 1) * 2 = m * 2 + 1 + 1 by omega]; rfl
theorem Mb.restW (h : Mb w X R S W nS nW vc vs wk cg cc wv B) {nt : Int} {g n0 cap : Nat} (hv : wv nt = .slice (some ⟨g, 0, none⟩) n0 cap) {K k : Nat} (hK : K ≤ k) (hk : k ≤ n0) :
   Mb (w.setCells g (K * 2) (flatW ((B.wt nt).drop k))) X R S W nS nW vc vs wk cg cc wv { B with wt := upd B.wt nt (over (B.wt nt) K ((B.wt nt).drop k)) } ∧ Fr X w (w.setCells g (K * 2) (flatW ((B.wt nt).drop k))) X ∧
     (flatW ((B.wt nt).drop k)).length = (n0 - k) * 2 ∧ (∀ j u, (flatW ((B.wt nt).drop k))[j]? = some u → w.cell? ((⟨g, k * 2, none⟩ : Addr).add j) = some u) ∧ (∀ u ∈ flatW ((B.wt nt).drop k), u.oneCell' = true) ∧
     (∀ j, j < (flatW ((B.wt nt).drop k)).length → (w.cell? ⟨g, K * 2 + j, none⟩).isSome = true) ∧ (∀ j, j < (flatW ((B.wt nt).drop k)).length → w.frozen? ⟨g, K * 2 + j, none⟩ = false) := by
 have hr := h.wl nt
 rw [hv] at hr
 obtain rfl : n0 = (B.wt nt).length := by
   rcases hr.2 with ⟨e, e0⟩ | ⟨g', c, cur, e, _⟩
   · cases e
   · injection e
 have hg : X g := h.xl nt g (by rw [hv]; rfl)
 have hlen : (flatW ((B.wt nt).drop k)).length = ((B.wt nt).length - k) * 2 := by rw [flatW_len, List.length_drop]
 refine ⟨h.putWs hv _ K, Fr.sets _ _ hg, hlen, fun j u hj => ?_, fun u hu => ?_, fun j hj => ?_, fun j hj => h.wtFz hv _⟩
 · have hj2 : j < ((B.wt nt).length - k) * 2 := by rw [← hlen]; exact (List.getElem?_eq_some_iff.1 hj).1
   have := hr.cellAt (k * 2 + j) (by show k * 2 + j < (B.wt nt).length * 2; omega)
   rw [flatW_drop, List.getElem?_drop] at hj
   rw [Addr.add_lit, this, hj]
 · unfold flatW at hu
   obtain ⟨p, _, hp⟩ := List.mem_flatMap.1 hu
   simp at hp
   rcases hp with rfl | rfl <;> rfl
 · rw [hlen] at hj
   have := hr.cellAt (K * 2 + j) (by show K * 2 + j < (B.wt nt).length * 2; omega)
   rw [this, List.getElem?_eq_getElem (by rw [flatW_len]; omega)]
   rfl
theorem Fr.newbox {w3 : World} {X3 : Nat → Prop} {bx : Nat} (h : Fr X w w3 X3) (hb : w.heap.size ≤ bx) (j : Nat) (u : Value) : Fr X w (w3.setCell ⟨bx, j, none⟩ u).drew X3 := by
 have hb0 : Below 0 w3 (w3.setCell ⟨bx, j, none⟩ u).drew := ((Below.refl 0 w3).setCell (Nat.zero_le _) u).drew
 exact ⟨hb0.os.trans h.os, hb0.tape.trans h.tape, hb0.output.trans h.output, Nat.le_trans h.size hb0.size, fun g hg hx => (Below.heap_setCell _ _ _ _ (by simp only [ne_eq]; omega)).trans (h.far g hg hx), h.to, h.fro⟩
theorem Mb.endW (h : Mb w X R S W nS nW vc vs wk cg cc wv B) (nt : Int) (hnt : Small nt) {p : Option Addr} {n0 cap : Nat} (hv : wv nt = .slice p n0 cap) (m : Nat) (hm : m ≤ n0) (hn : nW < maxLen) :
   ∃ w', (Instr.mapUpdate 206 (.map (some W)) (.int .i64 nt) (.slice p m cap)).run Tryz.prog w = .ok () w' ∧ Mb w' X R S W nS (nW + 1) vc vs wk cg cc (upd wv nt (.slice p m cap)) { B with wt := upd B.wt nt ((B.wt nt).take m) } ∧ Fr X w w' X := by
 have hr := h.wl nt
 rw [hv] at hr
 have hn0 : n0 = (B.wt nt).length := by
   rcases hr.2 with ⟨e, e0⟩ | ⟨g, c, cur, e, _⟩
   · injection e with _ e; omega
   · injection e
 subst hn0
 have hrow := row_takeW hr rfl hm
 have hsl := row_sl hrow
 have hwm := h.wm
 obtain ⟨D, hD, hDs⟩ := hwm
 obtain ⟨u', h1, h2, h3⟩ := hD.update law3 Tryz.underlying206 hn (key3 hnt) (slR_of hsl)
 have hnW : Value.ownBlock (wv nt) ≠ some W := row_nmap (h.wl nt) hD
 have hfar : ∀ g, g < w.heap.size → g ≠ W → u'.heap[g]? = w.heap[g]? := fun g hg hne => h3.block g hg (by simpa using hne)
 have hob : ∀ g, Value.ownBlock (.slice p m cap) = some g → (wv nt).ownBlock = some g := fun g hg => by
   rw [hv]
   cases p with
   | none => simp [Value.ownBlock] at hg
   | some a => simpa [Value.ownBlock] using hg
 refine ⟨u', h1, h.setWatch (fun g hg hne _ => hfar g hg hne) (fun _ e => e) (Wm.put hD.isMap hDs h2) ?_ (fun g hg => h.xl nt g (hob g hg)) (fun g hg => .inl (hob g hg)) (fun g hg => Nat.lt_of_lt_of_le (h.xb g hg) h3.size), ?_⟩
 · have hlt : ((B.wt nt).take m).length = m := by rw [List.length_take]; omega
   rw [hlt]
   refine row_same hrow fun g hg => hfar g ((h.wl nt).lt g (hob g hg)).2 fun e => ?_
   exact hnW (e ▸ hob g hg)
 · exact ⟨h3.os, h3.tape, h3.output, h3.size, fun g hg hx => hfar g hg (fun e => hx (e ▸ h.xw)), fun _ e => e, fun _ _ e => e⟩
end
end Go.Proofs.YtjhkecnnhddhbaaGreatDoor.Pf

namespace Go.Proofs.YtjhkecnnhddhbaaGreatDoor.Pf
open Go.RowKit Go.Maps Go.WideMaps
set_option maxRecDepth 100000
theorem Num.small {V x : Int} (h : Num V x) (hV : V ≤ 200000) : Small x := ⟨by have := h.2.1; omega, by have := h.2.2; omega⟩
def LkJ (w : World) (X : Nat → Prop) (R S W nS nW : Nat) (vc : Value) (cg cc : Nat → Nat) (v0 : Value) (V nt : Int) (D : List Int) (ch : Int → Prop) (B0 : Bd) (l : List (Nat × Int)) (k : Nat) (kept : List (Nat × Int)) (wr : World) : Prop :=
 ∃ X' nS' nW' vs' wk' wv' B, Mb wr X' R S W nS' nW' vc vs' wk' cg cc wv' B ∧ Fr X w wr X' ∧ wv' nt = v0 ∧ Lk V nt D ch B0 l k kept B ∧ nS' + B0.sp.length ≤ nS + B.sp.length ∧ nW' ≤ nW + k ∧ B.cl.length = B0.cl.length
def LkOut (w : World) (X : Nat → Prop) (R S W nS nW : Nat) (vc : Value) (cg cc : Nat → Nat) (B0 : Bd) (nt : Int) (e : Ending) (w' : World) : Prop :=
 e = .returned (.int .i64 (B0.lookAt nt).2) ∧ ∃ X' nS' nW' vs' wk' wv', Mb w' X' R S W nS' nW' vc vs' wk' cg cc wv' (B0.lookAt nt).1 ∧ Fr X w w' X' ∧ nS' + B0.sp.length ≤ nS + (B0.lookAt nt).1.sp.length ∧ nW' ≤ nW + 800001
theorem set_dropK {l kept : List (Nat × Int)} {k : Nat} (hk : kept.length ≤ k) (p : Nat × Int) : ((kept ++ l.drop kept.length).set kept.length p).drop (k + 1) = l.drop (k + 1) := by
 rw [List.drop_set, if_pos (by omega), List.drop_append, List.drop_eq_nil_of_le (by omega), List.nil_append, List.drop_drop, show kept.length + (k + 1 - kept.length) = k + 1 by omega]
theorem two_newsP (x y : Int) (w : World) : ∀ j u, ([.int .i64 x, .int .i64 y] : List Value)[j]? = some u → (w.alloc (.cells #[.int .i64 x, .int .i64 y] 229)).cell? ((⟨w.heap.size, 0, none⟩ : Addr).add j) = some u := fun j u hj => by
 match j, hj with
 | 0, hj => simp at hj; subst hj; simp [go_sem, Addr.add]
 | 1, hj => simp at hj; subst hj; simp [go_sem, Addr.add]
set_option maxHeartbeats 4000000 in
theorem lookAt_any (w : World) (X : Nat → Prop) (R S W nS nW : Nat) (vc vs : Value) (wk : Int) (cg cc : Nat → Nat) (wv : Int → Value) (B0 : Bd) (h : Mb w X R S W nS nW vc vs wk cg cc wv B0) (V nt : Int) (D : List Int) (ch : Int → Prop) (hLI : LI V nt D ch B0 [] (B0.wt nt)) (hV : V ≤ 200000) (hnt : Small nt) (hcl : B0.cl.length ≤ 800000) (hnS : nS ≤ 100000000000000) (hnW : nW ≤ 900000000000000000) :
   Calls Tryz.prog 194 #[.pointer (some ⟨R, 0, none⟩), .int .i64 nt] w (LkOut w X R S W nS nW vc cg cc B0 nt) := by
 have hsl := row_sl (h.wl nt)
 have hwf : Wf V B0 := by
   have := hLI.wf
   rw [List.nil_append, upd_self] at this
   exact this
 have HL := hide (hwf.wtLen nt)
 obtain ⟨l, hl⟩ : ∃ l, B0.wt nt = l := ⟨_, rfl⟩
 obtain ⟨p, n0, cap, hv, hn0, hcap⟩ : ∃ p n0 cap, wv nt = .slice p n0 cap ∧ n0 = l.length ∧ n0 ≤ cap := by
   rcases (h.wl nt).2 with ⟨e, e0⟩ | ⟨g, c, cur, e, _, _, hc, _⟩
   · exact ⟨none, 0, 0, e, by rw [← hl]; omega, Nat.le_refl _⟩
   · exact ⟨_, _, _, e, by rw [hl], hc⟩
 have HJ0 : Hid (LkJ w X R S W nS nW vc cg cc (.slice p n0 cap) V nt D ch B0 l 0 [] w) := by
   refine ⟨X, nS, nW, vs, wk, wv, B0, h, Fr.refl _ _, hv, ?_, Nat.le_refl _, Nat.le_refl _, rfl⟩
   rw [← hl]
   exact Lk.begin hLI
 have c6 := h.c6
 have hlk := look104 h.wm hnt hsl
 rw [hv] at hlk
 rw [hl] at HL
 have hn0l : n0 ≤ 800000 := by have := HL.out; omega
 have HN0 := hide hn0
 clear h hLI hsl hl hwf hv hn0
 go_enter Tryz.func194, Tryz.ntmps194
 go_wp2_with fail
 go_loopw [6, 7, 20] (fun s6 s7 s20 wr => ∃ (k K : Nat) (kept : List (Nat × Int)), k ≤ n0 ∧ K ≤ k ∧ s6 = .slice p K cap ∧ s7 = .int .i64 (-1) ∧ s20 = .int .i64 k ∧ Hid (kept.length = K ∧ LkJ w X R S W nS nW vc cg cc (.slice p n0 cap) V nt D ch B0 l k kept wr)) (fun _ _ t _ => n0 - (intOf t).toNat)
 case atStart => exact ⟨0, 0, [], Nat.zero_le _, Nat.le_refl _, rfl, rfl, rfl, rfl, HJ0.out⟩
 case round =>
   obtain ⟨k, K, kept, hk, hKk, rfl, rfl, rfl, HJ⟩ := hrel
   clear c6 hlk HJ0
   obtain ⟨X1, nS1, nW1, vs1, wk1, wv1, B, hM, hF, hv1, hLk, hnS1, hnW1, hcl1⟩ := HJ.out.2
   have HKL := hide HJ.out.1
   have HM := hide hM
   have HF := hide hF
   have HV1 := hide hv1
   have HLK := hide hLk
   have HNS := hide hnS1
   have HNW := hide hnW1
   have HCL := hide hcl1
   clear hM hF hv1 hLk hnS1 hnW1 hcl1 HJ
   by_cases hlt : k < n0
   · have hlti : (k : Int) < (n0 : Int) := by omega
     have hkl : k < l.length := by have := HN0.out; omega
     have hwl : (B.wt nt).length = l.length := by rw [HLK.out.wt, List.length_append, List.length_drop]; have := HKL.out; omega
     obtain ⟨g, hp⟩ : ∃ g, p = some ⟨g, 0, none⟩ := by
       obtain ⟨g, c, e, _⟩ := HM.out.wtAt (nt := nt) (j := k) (by omega)
       rw [HV1.out] at e
       injection e with e
       exact ⟨g, e⟩
     subst hp
     obtain ⟨i, o, hio⟩ : ∃ i o, l[k]? = some (i, o) := ⟨_, _, List.getElem?_eq_getElem hkl⟩
     have hat : (B.wt nt)[k]'(by omega) = (i, o) := by
       have h1 : (B.wt nt)[k]? = some (i, o) := by
         rw [HLK.out.wt, List.getElem?_append_right (by have := HKL.out; omega), List.getElem?_drop, ← hio]
         congr 1
         have := HKL.out
         omega
       rw [List.getElem?_eq_getElem (by omega)] at h1
       injection h1
     obtain ⟨x0, x1⟩ := HM.out.wtCell HV1.out (j := k) (by omega)
     rw [hat] at x0 x1
     simp only at x0 x1
     have HIO := hide hio
     have HWL := hide hwl
     have hal : Below wr.heap.size wr (wr.alloc (.cells #[.int .i64 i, .int .i64 o] 229)) := bal (Below.refl _ _) _
     have b0 : (wr.alloc (.cells #[.int .i64 i, .int .i64 o] 229)).cell? ⟨wr.heap.size, 0, none⟩ = some (.int .i64 i) := by simp [go_sem]
     have b1 : (wr.alloc (.cells #[.int .i64 i, .int .i64 o] 229)).cell? ⟨wr.heap.size, 1, none⟩ = some (.int .i64 o) := by simp [go_sem]
     have bf : (wr.alloc (.cells #[.int .i64 i, .int .i64 o] 229)).frozen? ⟨wr.heap.size, 1, none⟩ = false := by simp [go_sem]
     have HM1 := hide (HM.out.later hal)
     have HF1 : Hid (Fr X w (wr.alloc (.cells #[.int .i64 i, .int .i64 o] 229)) X1) := HF.out.trans (Fr.quiet hal)
     have HBW : Hid (w.heap.size ≤ wr.heap.size) := HF.out.size
     have HBX : Hid (¬ X1 wr.heap.size) := fun e => by have := HM.out.xb _ e; omega
     have HSZ : Hid (wr.heap.size < (wr.alloc (.cells #[.int .i64 i, .int .i64 o] 229)).heap.size) := by simp [Hid]
     clear hal hat hio hwl
     go_upto_region 7 with fail
     generalize wr.alloc (.cells #[.int .i64 i, .int .i64 o] 229) = w1 at *
     generalize wr.heap.size = bx at *
     clear x0 x1 HM HF
     have hgR : Hid (bx ≠ R) := fun e => HBX.out (e ▸ HM1.out.xr)
     have HM2 := hide (HM1.out.work (wrap64 (wk1 + 1)))
     have HF2 : Hid (Fr X w (w1.setCell ⟨R, 4, none⟩ (.int .i64 (wrap64 (wk1 + 1)))) X1) := HF1.out.trans (Fr.set (q := ⟨R, 4, none⟩) HM1.out.xr _)
     have d0 : (w1.setCell ⟨R, 4, none⟩ (.int .i64 (wrap64 (wk1 + 1)))).cell? ⟨bx, 0, none⟩ = some (.int .i64 i) := cell_set_far b0 hgR.out
     have d1 : (w1.setCell ⟨R, 4, none⟩ (.int .i64 (wrap64 (wk1 + 1)))).cell? ⟨bx, 1, none⟩ = some (.int .i64 o) := cell_set_far b1 hgR.out
     have df : (w1.setCell ⟨R, 4, none⟩ (.int .i64 (wrap64 (wk1 + 1)))).frozen? ⟨bx, 1, none⟩ = false := by rw [World.frozen?_setCell]; exact bf
     have HSZ2 : Hid (bx < (w1.setCell ⟨R, 4, none⟩ (.int .i64 (wrap64 (wk1 + 1)))).heap.size) := by unfold Hid; rw [size_set]; exact HSZ.out
     have c4 := HM1.out.c4
     have f4 := HM1.out.fz 4
     go_upto_region 8 with fail
     clear c4 f4 b0 b1 bf HSZ HM1 HF1
     generalize w1.setCell ⟨R, 4, none⟩ (.int .i64 (wrap64 (wk1 + 1))) = w2 at *
     generalize wrap64 (wk1 + 1) = wk2 at *
     obtain ⟨a, b, r, hc, hwat, hnd, hl2, hnum, hom⟩ := HLK.out.there HIO.out
     have hso : Small o := (hnum o hom).small hV
     have HSO := hide (isSo_any R S nS1 B.st o hso w2 HM2.out.c5 HM2.out.so)
     have HC := hide (And.intro hc (And.intro hwat (And.intro hnd (And.intro hl2 hnum))))
     have hKl : K < (B.wt nt).length := by have := HWL.out; omega
     have HKW := hide hKl
     clear hc hwat hnd hl2 hnum hom hKl
     by_cases ho : o ∈ B.st
     · have hd : decide (o ∈ B.st) = true := by simpa using ho
       rw [hd] at HSO
       have hno : decide (-o ∈ B.st) = false := decide_eq_false (HLK.out.li.wf.sc o ho)
       obtain ⟨hA1, hA2, hA3, hA4⟩ := HM2.out.appW HV1.out HKW.out i o
       have HM3 := hide hA1
       have HF3 := hide (HF2.out.trans hA2)
       have HA := hide (And.intro hA3 hA4)
       have e0 := hA2.cell d0 HBX.out
       have e1 := hA2.cell d1 HBX.out
       have HSO3 := hide (isSo_any R S nS1 B.st o hso _ HM3.out.c5 HM3.out.so)
       have HIN3 := hide (isNot_any R S nS1 B.st o hso _ HM3.out.c5 HM3.out.so)
       rw [hd] at HSO3
       rw [hno] at HIN3
       have hk' := HLK.out.keep HIO.out ho
       rw [HKL.out] at hk'
       have HK' := hide hk'
       have hroom : K + 1 ≤ cap := by omega
       have HNE := hide (two_newsP i o w2)
       clear hA1 hA2 hA3 hA4 hk' hd hno ho
       go_upto_region 12 with (first | (go_at_call 203; refine HSO.out.mono ?_; rintro e w' ⟨rfl, hw'⟩; obtain rfl : w2 = w' := hw'.symm) | (at_builtin; refine wpList_append_in _ rfl _ _ rfl g K cap rfl ⟨w2.heap.size, 0, none⟩ 1 1 [.int .i64 i, .int .i64 o] rfl rfl HNE.out (two_cell i o) hroom HA.out.1 HA.out.2 ?_))
       generalize (w2.alloc (.cells #[.int .i64 i, .int .i64 o] 229)).setCells g (K * 2) [.int .i64 i, .int .i64 o] = w3 at *
       clear HA HSO HM2 HF2 d0 d1 df HSZ2
       go_wp2_with (first | (go_at_call 204; refine HIN3.out.mono ?_; rintro e w' ⟨rfl, hw'⟩; obtain rfl : w3 = w' := hw'.symm) | (go_at_call 203; refine HSO3.out.mono ?_; rintro e w' ⟨rfl, hw'⟩; obtain rfl : w3 = w' := hw'.symm))
       go_roundw
       case rel => exact ⟨k + 1, K + 1, kept ++ [(i, o)], by omega, by omega, rfl, rfl, by go_num, by have := HKL.out; simp; omega, X1, nS1, nW1, vs1, wk2, wv1, _, HM3.out, HF3.out, HV1.out, HK'.out, HNS.out, by have := HNW.out; omega, HCL.out⟩
       case measure => simp [intOf]; omega
     · have hd : decide (o ∈ B.st) = false := decide_eq_false ho
       rw [hd] at HSO
       have hi : i < B.cl.length := (List.getElem?_eq_some_iff.1 HC.out.1).1
       have hwtl : ∀ x, (B.wt x).length ≤ 1000000 := fun x => by
         have := HLK.out.wtLen 800000 (by have := HN0.out; omega) (by have := HCL.out; omega) x
         omega
       have HTU := hide (turn_any w2 X1 R S W nS1 nW1 vc vs1 wk2 cg cc wv1 B HM2.out i nt a b r HC.out.1 HC.out.2.1 HC.out.2.2.1 (fun x hx => (HC.out.2.2.2.2 x hx).small hV) HC.out.2.2.2.1 hwtl (by have := HNW.out; omega))
       obtain ⟨o', ht⟩ := turned (B := B) HC.out.2.1 HC.out.2.2.1
       have HHO := hide ho
       clear hd hwtl ho
       cases htc : B.turnC nt (a :: b :: r) with
       | mk c' t =>
         rw [htc] at ht HTU
         simp only at ht
         have HT := hide ht
         have HTC := hide htc
         cases t with
         | some x =>
           have HTB : Hid (B.turn i nt = { B with cl := B.cl.set i c', wt := upd B.wt x (B.wt x ++ [(i, c'.getD 0 0)]) }) := by unfold Hid Bd.turn; rw [getD_some HC.out.1, htc]
           have HK' := hide (HLK.out.turn HIO.out HHO.out HC.out.1 htc ht)
           clear ht htc
           go_upto_region 9 with (go_at_call 203; refine HSO.out.mono ?_; rintro e w' ⟨rfl, hw'⟩; obtain rfl : w2 = w' := hw'.symm)
           go_wp2_with fail
           refine HTU.out.mono ?_
           rintro e w3 ⟨rfl, X3, wk3, nW3, wv3, hnW3, hwv3, hM3, hF3⟩
           rw [HTB.out] at hM3
           have HM3 := hide hM3
           have HF3 := hide (HF2.out.trans hF3)
           have HN3 := hide (And.intro hnW3 hwv3)
           clear hM3 hF3 hnW3 hwv3
           simp only [Option.isSome_some]
           go_wp2_with fail
           go_roundw
           case rel => exact ⟨k + 1, K, kept, by omega, by omega, rfl, rfl, by go_num, HKL.out, X3, nS1, nW3, vs1, wk3, wv3, _, HM3.out, HF3.out, HN3.out.2.trans HV1.out, HK'.out, HNS.out, by have := HNW.out; have := HN3.out.1; omega, by simpa using HCL.out⟩
           case measure => simp [intOf]; omega
         | none =>
           have HTB : Hid (B.turn i nt = { B with cl := B.cl.set i c' }) := by unfold Hid Bd.turn; rw [getD_some HC.out.1, htc]
           clear ht htc
           go_upto_region 9 with (go_at_call 203; refine HSO.out.mono ?_; rintro e w' ⟨rfl, hw'⟩; obtain rfl : w2 = w' := hw'.symm)
           go_wp2_with fail
           refine HTU.out.mono ?_
           rintro e w3 ⟨rfl, X3, wk3, nW3, wv3, hnW3, hwv3, hM3, hF3⟩
           rw [HTB.out] at hM3
           have HM3 := hide hM3
           have HF3 := hide (HF2.out.trans hF3)
           have HN3 := hide (And.intro hnW3 hwv3)
           have HV3 := hide (hwv3.trans HV1.out)
           have HBX3 : Hid (¬ X3 bx) := fun e => HBX.out (hF3.fro bx HSZ2.out e)
           have e0 := hF3.cell d0 HBX.out
           have e1 := hF3.cell d1 HBX.out
           have ef : w3.frozen? ⟨bx, 1, none⟩ = false := by
             have hh := hF3.far bx HSZ2.out HBX.out
             have := df
             unfold World.frozen? at this ⊢
             rw [hh]; exact this
           have c0 := hM3.c0
           obtain ⟨gr, gcap, hvc, r0⟩ := hM3.rowAt (i := i) (by simpa using hi)
           have hgd : (B.cl.set i c').getD i [] = c' := by rw [getD_set hi]; simp
           simp only [hgd, List.length_set] at r0 hvc
           have hlc : 0 < c'.length := by rw [HT.out.len]; simp
           have x0 := hM3.ints (i := i) (by simpa using hi) (j := 0) (by simp only [hgd]; exact hlc)
           simp only [hgd] at x0
           have hfst : c'[0] = o' := by
             have := HT.out.fst
             rw [List.getD, List.getElem?_eq_getElem hlc] at this
             exact this
           rw [hfst] at x0
           clear hgd hfst hM3 hF3 hnW3 hwv3
           obtain ⟨n2, hn2⟩ : ∃ n2, c'.length = n2 := ⟨_, rfl⟩
           rw [hn2] at r0 hlc
           have hlci : (0 : Int) < (n2 : Int) := by omega
           have hii : (i : Int) < (B.cl.length : Int) := by omega
           rw [hvc] at c0
           clear hn2
           simp only [Option.isSome_none]
           clear HSO HTU d0 d1 df HM2 HF2
           have n1 : R ≠ bx := fun e => HBX3.out (e ▸ HM3.out.xr)
           have n2' : gr ≠ bx := fun e => HBX3.out (HM3.out.xc bx (by rw [hvc, e]; rfl))
           have n3 : cg i ≠ bx := fun e => HBX3.out (e ▸ HM3.out.xi i (by simpa using hi))
           have y0 : (w3.drew.setCell ⟨bx, 1, none⟩ (.int .i64 o')).cell? ⟨R, 0, none⟩ = some (.slice (some ⟨gr, 0, none⟩) B.cl.length gcap) := cell_set_far c0 n1
           have y1 : (w3.drew.setCell ⟨bx, 1, none⟩ (.int .i64 o')).cell? ⟨bx, 0, none⟩ = some (.int .i64 i) := (World.cell?_setCell_other _ _ _ _ (by simp)).trans e0
           have y2 : (w3.drew.setCell ⟨bx, 1, none⟩ (.int .i64 o')).cell? ⟨gr, i, none⟩ = some (.slice (some ⟨cg i, 0, none⟩) n2 (cc i)) := cell_set_far r0 n2'
           have y3 : (w3.drew.setCell ⟨bx, 1, none⟩ (.int .i64 o')).cell? ⟨cg i, 0, none⟩ = some (.int .i64 o') := cell_set_far x0 n3
           have y4 : (w3.drew.setCell ⟨bx, 1, none⟩ (.int .i64 o')).cell? ⟨bx, 1, none⟩ = some (.int .i64 o') := World.cell?_setCell_same _ _ _ e1
           have HM4 : Hid (Mb (w3.setCell ⟨bx, 1, none⟩ (.int .i64 o')).drew X3 R S W nS1 nW3 vc vs1 wk3 cg cc wv3 { B with cl := B.cl.set i c' }) := HM3.out.apart (Nat.le_of_eq (size_set w3 ⟨bx, 1, none⟩ (.int .i64 o')).symm) (fun g hg => Below.heap_setCell _ _ _ _ (fun e => HBX3.out ((show g = bx from e) ▸ hg)))
           have HF4 : Hid (Fr X w (w3.setCell ⟨bx, 1, none⟩ (.int .i64 o')).drew X3) := HF3.out.newbox HBW.out 1 _
           go_upto_region 10 with fail
           go_region_held3 (fun w' => w'.cell? ⟨R, 0, none⟩ = some (.slice (some ⟨gr, 0, none⟩) B.cl.length gcap) ∧ w'.cell? ⟨bx, 0, none⟩ = some (.int .i64 i) ∧ w'.cell? ⟨gr, i, none⟩ = some (.slice (some ⟨cg i, 0, none⟩) n2 (cc i)) ∧ w'.cell? ⟨cg i, 0, none⟩ = some (.int .i64 o')) (first | exact ⟨c0, e0, r0, x0⟩ | exact ⟨y0, y1, y2, y3⟩ | go_keep) (fail)
           have z0 : (w3.setCell ⟨bx, 1, none⟩ (.int .i64 o')).drew.cell? ⟨bx, 0, none⟩ = some (.int .i64 i) := y1
           have z1 : (w3.setCell ⟨bx, 1, none⟩ (.int .i64 o')).drew.cell? ⟨bx, 1, none⟩ = some (.int .i64 o') := y4
           clear y0 y1 y2 y3 y4 c0 e0 e1 ef r0 x0 n1 n2' n3
           generalize (w3.setCell ⟨bx, 1, none⟩ (.int .i64 o')).drew = w4 at *
           have ho'm : o' ∈ a :: b :: r := (HT.out.mem o').1 (by
             have h1 := HT.out.fst
             have h2 : 0 < c'.length := by rw [HT.out.len]; simp
             rw [List.getD, List.getElem?_eq_getElem h2] at h1
             exact h1 ▸ List.getElem_mem h2)
           have hso' : Small o' := (HC.out.2.2.2.2 o' ho'm).small hV
           obtain ⟨hA1, hA2, hA3, hA4⟩ := HM4.out.appW HV3.out HKW.out i o'
           have HM5 := hide hA1
           have HF5 := hide (HF4.out.trans hA2)
           have HA := hide (And.intro hA3 hA4)
           have q0 := hA2.cell z0 HBX3.out
           have q1 := hA2.cell z1 HBX3.out
           have HSO5 := hide (isSo_any R S nS1 B.st o' hso' _ HM5.out.c5 HM5.out.so)
           have HIN5 := hide (isNot_any R S nS1 B.st o' hso' _ HM5.out.c5 HM5.out.so)
           have hroom : K + 1 ≤ cap := by omega
           have HNE := hide (two_newsP i o' w4)
           clear hA1 hA2 hA3 hA4 ho'm
           go_upto_region 12 with (at_builtin; refine wpList_append_in _ rfl _ _ rfl g K cap rfl ⟨w4.heap.size, 0, none⟩ 1 1 [.int .i64 i, .int .i64 o'] rfl rfl HNE.out (two_cell i o') hroom HA.out.1 HA.out.2 ?_)
           generalize (w4.alloc (.cells #[.int .i64 i, .int .i64 o'] 229)).setCells g (K * 2) [.int .i64 i, .int .i64 o'] = w5 at *
           clear HA HNE HM3 HF3 HM4 HF4 z0 z1
           by_cases h1 : -o' ∈ B.st
           · have hd1 : decide (-o' ∈ B.st) = true := decide_eq_true h1
             rw [hd1] at HIN5
             have hA0 := HM5.out.restW (nt := nt) HV3.out (K := K + 1) (k := k + 1) (by omega) (by omega)
             simp only [upd_same, upd_twice] at hA0
             have hdr : ((B.wt nt).set K (i, o')).drop (k + 1) = l.drop (k + 1) := by
               rw [HLK.out.wt, ← HKL.out]
               exact set_dropK (by have := HKL.out; omega) _
             rw [hdr] at hA0
             obtain ⟨hR1, hR2, hR3, hR4, hR5, hR6, hR7⟩ := hA0
             have htk : (over ((B.wt nt).set K (i, o')) (K + 1) (l.drop (k + 1))).take (K + 1 + (n0 - (k + 1))) = (kept ++ [(i, o')]) ++ l.drop (k + 1) := by
               have hl1 : (l.drop (k + 1)).length = n0 - (k + 1) := by rw [List.length_drop, HN0.out]
               have := over_take (l.drop (k + 1)) ((B.wt nt).set K (i, o')) (K + 1) (by rw [List.length_set, HWL.out, hl1]; have := HN0.out; omega)
               rw [hl1] at this
               rw [this, HLK.out.wt, ← HKL.out, set_keep (k := k) (by have := HKL.out; omega) (by omega)]
               rw [show kept.length + 1 = (kept ++ [(i, o')]).length by simp, List.take_left']
               rfl
             have HM6 := hide hR1
             have HF6 := hide (HF5.out.trans hR2)
             have HR := hide (And.intro hR3 (And.intro hR4 (And.intro hR5 (And.intro hR6 hR7))))
             have p0 := hR2.cell q0 HBX3.out
             have c6 := HM6.out.c6
             have HE := hide (HM6.out.endW nt hnt HV3.out (K + 1 + (n0 - (k + 1))) (by omega) (by have := HNW.out; have := HN3.out.1; unfold maxLen; omega))
             simp only [upd_same, upd_twice, htk] at HE
             have HLF := hide (HLK.out.fail HIO.out HHO.out HC.out.1 HTC.out HT.out h1 B.wt (fun _ _ => rfl))
             have hroom2 : K + 1 + (n0 - (k + 1)) ≤ cap := by omega
             have hk1 : k + 1 ≤ n0 := by omega
             have hk1c : k + 1 ≤ cap := by omega
             have hk1i : ((k + 1 : Nat) : Int) ≤ (n0 : Int) := by omega
             have hk1ci : ((k + 1 : Nat) : Int) ≤ (cap : Int) := by omega
             have hnci : (n0 : Int) ≤ (cap : Int) := by omega
             clear hdr hR1 hR2 hR3 hR4 hR5 hR6 hR7 htk hd1 h1
             go_upto_region 13 with (go_at_call 204; refine HIN5.out.mono ?_; rintro e w' ⟨rfl, hw'⟩; obtain rfl : w5 = w' := hw'.symm)
             have HVA : Hid (n0 - (k + 1) = 0 → ∀ (ad : Addr) j u, (flatW (l.drop (k + 1)))[j]? = some u → w5.cell? (ad.add j) = some u) := fun h0 ad j u hj => by
               have h1 := (List.getElem?_eq_some_iff.1 hj).1
               rw [HR.out.1, h0] at h1
               omega
             by_cases hce : cap = k + 1
             · have hld : l.drop (k + 1) = [] := List.drop_eq_nil_of_le (by have := HN0.out; omega)
               have hE5 := HM5.out.endW nt hnt HV3.out (K + 1) (by omega) (by have := HNW.out; have := HN3.out.1; unfold maxLen; omega)
               have htk5 : ((B.wt nt).set K (i, o')).take (K + 1) = kept ++ [(i, o')] := by
                 rw [HLK.out.wt, ← HKL.out, set_keep (k := k) (by have := HKL.out; omega) (by omega)]
                 rw [show kept.length + 1 = (kept ++ [(i, o')]).length by simp, List.take_left']
                 rfl
               simp only [upd_same, upd_twice, htk5, hce] at hE5
               obtain ⟨w7, hrun, hM7, hF7⟩ := hE5
               rw [hld, List.append_nil] at HLF
               have HM7 := hide hM7
               have HF7 := hide (HF5.out.trans hF7)
               have c65 := HM5.out.c6
               have hn0e : n0 = k + 1 := by omega
               clear hM7 hF7 htk5 hld HM6 HF6 HR p0 c6 HE hroom2 HVA
               go_wp2_with fail
               go_ret
               unfold LkOut
               rw [HLF.out]
               exact ⟨rfl, _, _, _, _, _, _, HM7.out, HF7.out, HNS.out, by have := HNW.out; have := HN3.out.1; omega⟩
             · obtain ⟨w7, hrun, hM7, hF7⟩ := HE.out
               have HM7 := hide hM7
               have HF7 := hide (HF6.out.trans hF7)
               clear hM7 hF7
               go_wp2_with (at_builtin; refine wpList_append_in _ rfl _ _ rfl g (K + 1) cap rfl _ (n0 - (k + 1)) _ (flatW (l.drop (k + 1))) rfl HR.out.1 HR.out.2.1 HR.out.2.2.1 hroom2 HR.out.2.2.2.1 HR.out.2.2.2.2 ?_)
               go_ret
               unfold LkOut
               rw [HLF.out]
               exact ⟨rfl, _, _, _, _, _, _, HM7.out, HF7.out, HNS.out, by have := HNW.out; have := HN3.out.1; omega⟩
           · have hd1 : decide (-o' ∈ B.st) = false := decide_eq_false h1
             rw [hd1] at HIN5
             by_cases h2 : o' ∈ B.st
             · have hd2 : decide (o' ∈ B.st) = true := decide_eq_true h2
               rw [hd2] at HSO5
               have hk' := HLK.out.stay HIO.out HHO.out HC.out.1 HTC.out HT.out h1 h2
               rw [HKL.out] at hk'
               have HK' := hide hk'
               clear hk' hd1 hd2 h1 h2
               go_wp2_with (first | (go_at_call 204; refine HIN5.out.mono ?_; rintro e w' ⟨rfl, hw'⟩; obtain rfl : w5 = w' := hw'.symm) | (go_at_call 203; refine HSO5.out.mono ?_; rintro e w' ⟨rfl, hw'⟩; obtain rfl : w5 = w' := hw'.symm))
               go_roundw
               case rel => exact ⟨k + 1, K + 1, kept ++ [(i, o')], by omega, by omega, rfl, rfl, by go_num, by have := HKL.out; simp; omega, X3, nS1, nW3, vs1, wk3, wv3, _, HM5.out, HF5.out, HV3.out, HK'.out, HNS.out, by have := HNW.out; have := HN3.out.1; omega, by simpa using HCL.out⟩
               case measure => simp [intOf]; omega
             · have hd2 : decide (o' ∈ B.st) = false := decide_eq_false h2
               rw [hd2] at HSO5
               have hk' := HLK.out.put HIO.out HHO.out HC.out.1 HTC.out HT.out h1 h2
               rw [HKL.out] at hk'
               have HK' := hide hk'
               have hspl := HLK.out.li.wf.spLen hV
               simp only at hspl
               have HPU := hide (put_any w5 X3 R S W nS1 nW3 vc vs1 wk3 cg cc wv3 _ HM5.out o' (i : Int) hso' h2 (by simp only; omega) (by have := HNS.out; omega))
               have HSP := hide hspl
               clear hk' hd1 hd2 h1 h2 hspl
               go_wp2_with (first | (go_at_call 204; refine HIN5.out.mono ?_; rintro e w' ⟨rfl, hw'⟩; obtain rfl : w5 = w' := hw'.symm) | (go_at_call 203; refine HSO5.out.mono ?_; rintro e w' ⟨rfl, hw'⟩; obtain rfl : w5 = w' := hw'.symm) | (go_at_call 215; refine HPU.out.mono ?_; rintro e w6 ⟨rfl, X6, vs6, wk6, hM6, hF6⟩))
               have HM6 := hide hM6
               have HF6 := hide (HF5.out.trans hF6)
               clear hM6 hF6
               go_wp2_with fail
               go_roundw
               case rel => exact ⟨k + 1, K + 1, kept ++ [(i, o')], by omega, by omega, rfl, rfl, by go_num, by have := HKL.out; simp; omega, X6, nS1 + 1, nW3, vs6, wk6, wv3, _, HM6.out, HF6.out, HV3.out, HK'.out, by have := HNS.out; simp [Bd.put]; omega, by have := HNW.out; have := HN3.out.1; omega, by simpa [Bd.put] using HCL.out⟩
               case measure => simp [intOf]; omega
   · have hlti : ¬ (k : Int) < (n0 : Int) := by omega
     have HD := hide (HLK.out.done (by have := HN0.out; omega))
     have c6 := HM.out.c6
     obtain ⟨w2, hrun, hM2, hF2⟩ := HM.out.endW nt hnt HV1.out K (by omega) (by have := HNW.out; unfold maxLen; omega)
     have htk : (B.wt nt).take K = kept := by rw [HLK.out.wt, ← HKL.out]; simp
     rw [htk] at hM2
     have HM2 := hide hM2
     have HF2 := hide (HF.out.trans hF2)
     clear hM2 hF2 htk
     go_wp2_with fail
     go_ret
     unfold LkOut
     rw [HD.out]
     exact ⟨rfl, _, _, _, _, _, _, HM2.out, HF2.out, HNS.out, by have := HNW.out; omega⟩
end Go.Proofs.YtjhkecnnhddhbaaGreatDoor.Pf
