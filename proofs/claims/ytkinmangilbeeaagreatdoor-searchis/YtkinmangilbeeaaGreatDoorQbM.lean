/- A board: one who watches is written over, in place. -/
import Derived.Test.YtkinmangilbeeaaGreatDoorPe
import Derived.ArgAppend
import Derived.Test.YtkinmangilbeeaaGreatDoorUg
namespace Go.Proofs.YtkinmangilbeeaaGreatDoor.Pf
open Go.RowKit Go.Maps Go.WideMaps
set_option maxRecDepth 100000

theorem flatW_cons (a : Nat × Int) (l : List (Nat × Int)) : flatW (a :: l) = .int .i64 a.1 :: .int .i64 a.2 :: flatW l := by simp [flatW]
theorem flatW_len (l : List (Nat × Int)) : (flatW l).length = l.length * 2 := by
  induction l with
  | nil => rfl
  | cons a l ih => rw [flatW_cons]; simp only [List.length_cons, ih]; omega
theorem flatW_set (l : List (Nat × Int)) (k : Nat) (p : Nat × Int) : flatW (l.set k p) = ((flatW l).set (k * 2) (.int .i64 p.1)).set (k * 2 + 1) (.int .i64 p.2) := by
  induction l generalizing k with
  | nil => simp [flatW]
  | cons a l ih =>
    cases k with
    | zero => simp [flatW_cons]
    | succ k =>
      rw [List.set_cons_succ, flatW_cons, flatW_cons, ih, show (k + 1) * 2 = k * 2 + 1 + 1 by omega]
      rfl
theorem flatW_at {l : List (Nat × Int)} {j : Nat} (hj : j < l.length) : (flatW l)[j * 2]? = some (.int .i64 l[j].1) ∧ (flatW l)[j * 2 + 1]? = some (.int .i64 l[j].2) := by
  induction l generalizing j with
  | nil => simp at hj
  | cons a l ih =>
    rw [flatW_cons]
    cases j with
    | zero => simp
    | succ j =>
      have h := ih (j := j) (by simpa using hj)
      rw [show (j + 1) * 2 = j * 2 + 2 by omega]
      simpa using h
section
variable {w : World} {X : Nat → Prop} {R S W nS nW : Nat} {vc vs : Value} {wk : Int} {cg cc : Nat → Nat} {wv : Int → Value} {B : Bd}
theorem Mb.putW (h : Mb w X R S W nS nW vc vs wk cg cc wv B) {nt : Int} {g n0 cap : Nat} (hv : wv nt = .slice (some ⟨g, 0, none⟩) n0 cap) (k : Nat) (p : Nat × Int) :
    Mb ((w.setCell ⟨g, k * 2, none⟩ (.int .i64 p.1)).setCell ⟨g, k * 2 + 1, none⟩ (.int .i64 p.2)) X R S W nS nW vc vs wk cg cc wv { B with wt := upd B.wt nt ((B.wt nt).set k p) } := by
  have hwm := h.wm
  obtain ⟨D, h1, h2⟩ := hwm
  have hrow := h.wl nt
  rw [hv] at hrow
  have hgW : W ≠ g := fun e => row_nmap hrow h1 (by rw [e]; rfl)
  have hself : upd wv nt (wv nt) = wv := by
    funext x
    unfold upd
    split
    · rename_i e; rw [e]
    · rfl
  have far : ∀ k', k' ≠ g → ((w.setCell ⟨g, k * 2, none⟩ (.int .i64 p.1)).setCell ⟨g, k * 2 + 1, none⟩ (.int .i64 p.2)).heap[k']? = w.heap[k']? := fun k' hk' => (Below.heap_setCell _ _ _ _ hk').trans (Below.heap_setCell _ _ _ _ hk')
  have hm := h.setWatch (w3 := (w.setCell ⟨g, k * 2, none⟩ (.int .i64 p.1)).setCell ⟨g, k * 2 + 1, none⟩ (.int .i64 p.2)) (X' := X) (nW' := nW) (n := nt) (v' := wv nt) (l' := (B.wt nt).set k p)
    (fun g' _ _ hne => far g' (fun e => hne (by rw [hv, e]; rfl))) (fun _ e => e) (by rw [hself]; exact h.wm.same (far W hgW)) ?_ (fun g' e => h.xl nt g' e) (fun g' e => .inl e) (fun g' e => by rw [size_set, size_set]; exact h.xb g' e)
  · rw [hself] at hm
    exact hm
  · rw [hv, List.length_set]
    refine ⟨by rw [flatW_len, List.length_set], ?_⟩
    rcases hrow.2 with ⟨e, _⟩ | ⟨g', c, cur, e, hb, hg, e1, e2, e3, e4⟩
    · cases e
    · injection e with a1 a2 a3
      injection a1 with a1
      injection a1 with a1
      subst a1 a2 a3
      refine .inr ⟨g, cap, (cur.setIfInBounds (k * 2) (.int .i64 p.1)).setIfInBounds (k * 2 + 1) (.int .i64 p.2), rfl, Nat.zero_le _, heap_setCell_same _ _ _ _ _ _ (heap_setCell_same _ _ _ _ _ _ hg), e1, e2, by simpa using e3, ?_⟩
      rw [Array.toList_setIfInBounds, Array.toList_setIfInBounds, List.take_set, List.take_set, e4, flatW_set]
end
end Go.Proofs.YtkinmangilbeeaaGreatDoor.Pf

namespace Go.Proofs.YtkinmangilbeeaaGreatDoor.Pf
open Go.RowKit Go.Maps Go.WideMaps
set_option maxRecDepth 100000

theorem wpList_append_in (w : World) {ops : Array Oper} {rest : List Oper} {o : Oper} {a : Act} {Q : Exit → Act → World → Prop} (hg : o.guard = none) (s x : Operand) (hop : o.op = Op.call { callee := Callee.builtin Builtin.append, args := #[s, x], argTypes := #[89, 89] })
    (g len cap : Nat) (hs : a.eval s = .slice (some ⟨g, 0, none⟩) len cap) (ad : Addr) (m c : Nat) (news : List Value) (hx : a.eval x = .slice (some ad) m c) (hl : news.length = m * 2) (hnews : ∀ j u, news[j]? = some u → w.cell? (ad.add j) = some u) (h1 : ∀ u ∈ news, u.oneCell' = true)
    (hroom : len + m ≤ cap) (hc : ∀ j, j < news.length → (w.cell? ⟨g, len * 2 + j, none⟩).isSome = true) (hf : ∀ j, j < news.length → w.frozen? ⟨g, len * 2 + j, none⟩ = false)
    (hK : wpList Tryz.prog ops Q rest (a.put o.dst (.slice (some ⟨g, 0, none⟩) (len + m) cap)) (w.setCells g (len * 2) news)) : wpList Tryz.prog ops Q (o :: rest) a w := by
  obtain ⟨i0, hi, hz0, hz1, hz2⟩ := info_parts info120
  have hrun := run_append_room_cells (P := Tryz.prog) w 89 o.type 73 i0 Tryz.underlying89 hi g 0 len cap ad m c news (by rw [hz1]; exact hl) hnews h1 hroom (by rw [hz1]; simpa using hc) (by rw [hz1]; simpa using hf)
  rw [hz1, Nat.zero_add] at hrun
  refine wpList_plain hg fun K' hK' => ?_
  unfold Oper.wp
  simp [execOp, hop, resolve, invoke, builtin, hs, hx, hrun, Result.andThen]
  exact hK' _ _ hK
end Go.Proofs.YtkinmangilbeeaaGreatDoor.Pf

namespace Go.Proofs.YtkinmangilbeeaaGreatDoor.Pf

def Settled (so : List Int) (n : Int) : Prop := n ∈ so ∨ -n ∈ so
/-- What is left of a clause's first numbers, and how many of them. -/
def cntK (so l : List Int) : Nat → Int × Nat
  | 0 => (0, 0)
  | k + 1 => if l.getD k 0 ∈ so ∨ -(l.getD k 0) ∈ so ∨ l.getD k 0 = (cntK so l k).1 then cntK so l k else (l.getD k 0, (cntK so l k).2 + 1)
theorem cntK_le (so l : List Int) (k : Nat) : (cntK so l k).2 ≤ k := by
  induction k with
  | zero => simp [cntK]
  | succ k ih =>
    unfold cntK
    split
    · omega
    · simp only; omega
structure CntF (so l : List Int) (k : Nat) (s : Int × Nat) : Prop where
  f0 : s.2 = 0 → s.1 = 0 ∧ ∀ j, j < k → Settled so (l.getD j 0)
  f1 : 1 ≤ s.2 → ∃ j, j < k ∧ l.getD j 0 = s.1 ∧ ¬ Settled so s.1
  f2 : s.2 = 1 → ∀ j, j < k → l.getD j 0 = s.1 ∨ Settled so (l.getD j 0)
  f3 : 2 ≤ s.2 → ∃ i j, i < k ∧ j < k ∧ l.getD i 0 ≠ l.getD j 0 ∧ ¬ Settled so (l.getD i 0) ∧ ¬ Settled so (l.getD j 0)
theorem cnt_ok {so l : List Int} (hl : ∀ x ∈ l, x ≠ 0) : ∀ k, k ≤ l.length → CntF so l k (cntK so l k) := by
  intro k
  induction k with
  | zero => intro _; exact ⟨fun _ => ⟨rfl, fun j hj => by omega⟩, fun h => by simp [cntK] at h, fun h => by simp [cntK] at h, fun h => by simp [cntK] at h⟩
  | succ k ih =>
    intro hk
    have h := ih (by omega)
    have hn : l.getD k 0 ≠ 0 := by
      have : k < l.length := by omega
      rw [List.getD, List.getElem?_eq_getElem this]
      exact hl _ (List.getElem_mem this)
    unfold cntK
    generalize cntK so l k = s at *
    generalize hx : l.getD k 0 = n at *
    by_cases hc : n ∈ so ∨ -n ∈ so ∨ n = s.1
    · rw [if_pos hc]
      refine ⟨fun h0 => ⟨(h.f0 h0).1, fun j hj => ?_⟩, fun h1 => ?_, fun h1 j hj => ?_, fun h2 => ?_⟩
      · rcases Nat.lt_succ_iff_lt_or_eq.1 hj with hj | rfl
        · exact (h.f0 h0).2 j hj
        · rw [hx]
          rcases hc with e | e | e
          · exact .inl e
          · exact .inr e
          · rw [(h.f0 h0).1] at e; exact absurd e hn
      · obtain ⟨j, a, b, c⟩ := h.f1 h1; exact ⟨j, by omega, b, c⟩
      · rcases Nat.lt_succ_iff_lt_or_eq.1 hj with hj | rfl
        · exact h.f2 h1 j hj
        · rw [hx]
          rcases hc with e | e | e
          · exact .inr (.inl e)
          · exact .inr (.inr e)
          · exact .inl e
      · obtain ⟨i, j, a, b, c⟩ := h.f3 h2; exact ⟨i, j, by omega, by omega, c⟩
    · rw [if_neg hc]
      have hns : ¬ Settled so n := fun e => hc (e.elim .inl fun e => .inr (.inl e))
      refine ⟨fun h0 => by simp at h0, fun _ => ⟨k, by omega, hx, hns⟩, fun h1 j hj => ?_, fun h2 => ?_⟩
      · rcases Nat.lt_succ_iff_lt_or_eq.1 hj with hj | rfl
        · exact .inr ((h.f0 (by simp only at h1; omega)).2 j hj)
        · exact .inl hx
      · obtain ⟨j, a, b, c⟩ := h.f1 (by simp only at h2; omega)
        exact ⟨j, k, by omega, by omega, by rw [b, hx]; exact fun e => hc (.inr (.inr e.symm)), by rw [b]; exact c, by rw [hx]; exact hns⟩
/-- What is so while the plain text goes round. -/
structure SoF (V : Int) (L : List (List Int)) (A : Int → Prop) (c : List Int) (so : List Int) : Prop where
  up : ∀ n ∈ so, UP L A n
  ain : ∀ n, A n → n ∈ so
  cons : ∀ n ∈ so, -n ∉ so
  num : ∀ n ∈ so, Num V n
  form : ∃ t, so = c ++ t ∧ t.Nodup
theorem mem_getD {l : List Int} {x : Int} (h : x ∈ l) : ∃ j, j < l.length ∧ l.getD j 0 = x := by
  obtain ⟨j, hj, e⟩ := List.getElem_of_mem h
  exact ⟨j, hj, by rw [List.getD, List.getElem?_eq_getElem hj, e]; rfl⟩
theorem getD_mem {l : List Int} {j : Nat} (h : j < l.length) : l.getD j 0 ∈ l := by
  rw [List.getD, List.getElem?_eq_getElem h]; exact List.getElem_mem h
def SatC (so : List Int) (c : List Int) : Prop := (∃ m ∈ c, m ∈ so) ∨ ∃ m ∈ c, ∃ n ∈ c, m ≠ n ∧ -m ∉ so ∧ -n ∉ so
theorem SoF.fail {V : Int} {L : List (List Int)} {A : Int → Prop} {c so : List Int} (h : SoF V L A c so) {d : List Int} (hd : d ∈ L) (hx : ∀ x ∈ d, x ≠ 0) (hf : ∀ x ∈ d, x ∉ so) (h0 : (cntK so d d.length).2 = 0) : Confl L A := by
  refine .inr ⟨d, hd, fun m hm => ?_⟩
  obtain ⟨j, hj, e⟩ := mem_getD hm
  rcases ((cnt_ok hx d.length (Nat.le_refl _)).f0 h0).2 j hj with e1 | e1
  · rw [e] at e1; exact absurd e1 (hf m hm)
  · rw [e] at e1; exact h.up _ e1
theorem SoF.more {V : Int} {L : List (List Int)} {A : Int → Prop} {c so : List Int} (h : SoF V L A c so) {d : List Int} (hd : d ∈ L) (hx : ∀ x ∈ d, Num V x) (hf : ∀ x ∈ d, x ∉ so) (h1 : (cntK so d d.length).2 = 1) : SoF V L A c (so ++ [(cntK so d d.length).1]) := by
  have hk := cnt_ok (so := so) (fun x hx' => (hx x hx').1) d.length (Nat.le_refl _)
  obtain ⟨j, hj, e, hns⟩ := hk.f1 (by omega)
  have hm : (cntK so d d.length).1 ∈ d := e ▸ getD_mem hj
  have hall := hk.f2 h1
  generalize (cntK so d d.length).1 = x at *
  have n1 : x ∉ so := fun e => hns (.inl e)
  have n2 : -x ∉ so := fun e => hns (.inr e)
  have hnum := hx x hm
  refine ⟨fun n hn => ?_, fun n hn => by simp [h.ain n hn], fun n hn => ?_, fun n hn => ?_, ?_⟩
  · rcases List.mem_append.1 hn with hn | hn
    · exact h.up n hn
    · obtain rfl : n = x := by simpa using hn
      refine .unit d hd hm fun m hmd hne => ?_
      obtain ⟨i, hi, e2⟩ := mem_getD hmd
      rcases hall i hi with e3 | e3 | e3
      · rw [e2] at e3; exact absurd e3 hne
      · rw [e2] at e3; exact absurd e3 (hf m hmd)
      · rw [e2] at e3; exact h.up _ e3
  · intro h3
    rcases List.mem_append.1 hn with hn | hn
    · rcases List.mem_append.1 h3 with h3 | h3
      · exact h.cons n hn h3
      · have : -n = x := by simpa using h3
        exact n2 (by rw [← this, Int.neg_neg]; exact hn)
    · obtain rfl : n = x := by simpa using hn
      rcases List.mem_append.1 h3 with h3 | h3
      · exact n2 h3
      · have : -n = n := by simpa using h3
        have := hnum.1
        omega
  · rcases List.mem_append.1 hn with hn | hn
    · exact h.num n hn
    · obtain rfl : n = x := by simpa using hn
      exact hnum
  · obtain ⟨t, e1, e2⟩ := h.form
    refine ⟨t ++ [x], by rw [e1, List.append_assoc], ?_⟩
    rw [List.nodup_append]
    refine ⟨e2, by simp, fun a ha b hb e => ?_⟩
    have : b = x := by simpa using hb
    exact n1 (by rw [e1]; exact List.mem_append.2 (.inr (this ▸ e ▸ ha)))
theorem SoF.sat {V : Int} {L : List (List Int)} {A : Int → Prop} {c so : List Int} (_h : SoF V L A c so) {d : List Int} (hx : ∀ x ∈ d, x ≠ 0) (h2 : 2 ≤ (cntK so d d.length).2) : SatC so d := by
  obtain ⟨i, j, hi, hj, a, b, e⟩ := (cnt_ok (so := so) hx d.length (Nat.le_refl _)).f3 h2
  exact .inr ⟨_, getD_mem hi, _, getD_mem hj, a, fun e' => b (.inr e'), fun e' => e (.inr e')⟩
theorem SoF.done {V : Int} {L : List (List Int)} {A : Int → Prop} {c so : List Int} (h : SoF V L A c so) (hs : ∀ d ∈ L, SatC so d) : ¬ Confl L A := no_confl (S := (· ∈ so)) h.ain h.cons hs
/-- No more numbers than there are. -/
theorem nodup_len {V : Int} {l : List Int} (hn : l.Nodup) (hx : ∀ x ∈ l, Num V x) : l.length ≤ (2 * V + 1).toNat := by
  have hsub : (l.map fun x => (x + V).toNat).Nodup := by
    rw [List.nodup_iff_pairwise_ne, List.pairwise_map]
    rw [List.nodup_iff_pairwise_ne] at hn
    refine hn.imp_of_mem ?_
    intro a b ha hb hab e
    have h1 := hx a ha
    have h2 := hx b hb
    exact hab (by have := h1.2.1; have := h2.2.1; omega)
  have hin : ∀ y ∈ l.map (fun x => (x + V).toNat), y ∈ List.range (2 * V + 1).toNat := fun y hy => by
    obtain ⟨x, hxl, rfl⟩ := List.mem_map.1 hy
    have h1 := hx x hxl
    rw [List.mem_range]
    have := h1.2.1; have := h1.2.2
    omega
  have := hsub.length_le_of_subset hin
  simpa using this
end Go.Proofs.YtkinmangilbeeaaGreatDoor.Pf
