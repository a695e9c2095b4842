/- A board: one who watches is written over, in place. -/
import Derived.Test.YtjhkecnnhddhbaaGreatDoorPe
namespace Go.Proofs.YtjhkecnnhddhbaaGreatDoor.Pf
open Go.RowKit Go.Maps Go.WideMaps
set_option maxRecDepth 100000
set_option autoImplicit false

theorem flatW_cons (a : Nat × Int) (l : List (Nat × Int)) : flatW (a :: l) = .int .i64 a.1 :: .int .i64 a.2 :: flatW l := by simp [flatW]
theorem flatW_len (l : List (Nat × Int)) : (flatW l).length = l.length * 2 := by
  induction l with
  | nil => rfl
  | cons a l ih => rw [flatW_cons]; simp only [List.length_cons, ih]; omega
theorem flatW_set (l : List (Nat × Int)) (k : Nat) (p : Nat × Int) : flatW (l.set k p) = ((flatW l).set (k * 2) (.int .i64 p.1)).set (k * 2 + 1) (.int .i64 p.2) := by
  induction l generalizing k with
  | nil => simp [flatW]
  | cons a l ih =>
    cases k with
    | zero => simp [flatW_cons]
    | succ k =>
      rw [List.set_cons_succ, flatW_cons, flatW_cons, ih, show (k + 1) * 2 = k * 2 + 1 + 1 by omega]
      rfl
theorem flatW_at {l : List (Nat × Int)} {j : Nat} (hj : j < l.length) : (flatW l)[j * 2]? = some (.int .i64 l[j].1) ∧ (flatW l)[j * 2 + 1]? = some (.int .i64 l[j].2) := by
  induction l generalizing j with
  | nil => simp at hj
  | cons a l ih =>
    rw [flatW_cons]
    cases j with
    | zero => simp
    | succ j =>
      have h := ih (j := j) (by simpa using hj)
      rw [show (j + 1) * 2 = j * 2 + 2 by omega]
      simpa using h
section
variable {w : World} {X : Nat → Prop} {R S W nS nW : Nat} {vc vs : Value} {wk : Int} {cg cc : Nat → Nat} {wv : Int → Value} {B : Bd}
theorem Mb.putW (h : Mb w X R S W nS nW vc vs wk cg cc wv B) {nt : Int} {g n0 cap : Nat} (hv : wv nt = .slice (some ⟨g, 0, none⟩) n0 cap) (k : Nat) (p : Nat × Int) :
    Mb ((w.setCell ⟨g, k * 2, none⟩ (.int .i64 p.1)).setCell ⟨g, k * 2 + 1, none⟩ (.int .i64 p.2)) X R S W nS nW vc vs wk cg cc wv { B with wt := upd B.wt nt ((B.wt nt).set k p) } := by
  have hwm := h.wm
  obtain ⟨D, h1, h2⟩ := hwm
  have hrow := h.wl nt
  rw [hv] at hrow
  have hgW : W ≠ g := fun e => row_nmap hrow h1 (by rw [e]; rfl)
  have hself : upd wv nt (wv nt) = wv := by
    funext x
    unfold upd
    split
    · rename_i e; rw [e]
    · rfl
  have far : ∀ k', k' ≠ g → ((w.setCell ⟨g, k * 2, none⟩ (.int .i64 p.1)).setCell ⟨g, k * 2 + 1, none⟩ (.int .i64 p.2)).heap[k']? = w.heap[k']? := fun k' hk' => (Below.heap_setCell _ _ _ _ hk').trans (Below.heap_setCell _ _ _ _ hk')
  have hm := h.setWatch (w3 := (w.setCell ⟨g, k * 2, none⟩ (.int .i64 p.1)).setCell ⟨g, k * 2 + 1, none⟩ (.int .i64 p.2)) (X' := X) (nW' := nW) (n := nt) (v' := wv nt) (l' := (B.wt nt).set k p)
    (fun g' _ _ hne => far g' (fun e => hne (by rw [hv, e]; rfl))) (fun _ e => e) (by rw [hself]; exact h.wm.same (far W hgW)) ?_ (fun g' e => h.xl nt g' e) (fun g' e => .inl e) (fun g' e => by rw [size_set, size_set]; exact h.xb g' e)
  · rw [hself] at hm
    exact hm
  · rw [hv, List.length_set]
    refine ⟨by rw [flatW_len, List.length_set], ?_⟩
    rcases hrow.2 with ⟨e, _⟩ | ⟨g', c, cur, e, hb, hg, e1, e2, e3, e4⟩
    · cases e
    · injection e with a1 a2 a3
      injection a1 with a1
      injection a1 with a1
      subst a1 a2 a3
      refine .inr ⟨g, cap, (cur.setIfInBounds (k * 2) (.int .i64 p.1)).setIfInBounds (k * 2 + 1) (.int .i64 p.2), rfl, Nat.zero_le _, heap_setCell_same _ _ _ _ _ _ (heap_setCell_same _ _ _ _ _ _ hg), e1, e2, by simpa using e3, ?_⟩
      rw [Array.toList_setIfInBounds, Array.toList_setIfInBounds, List.take_set, List.take_set, e4, flatW_set]
end
end Go.Proofs.YtjhkecnnhddhbaaGreatDoor.Pf
