/- A board: one who watches is written over, in place. -/
import Derived.Test.YtabnimgpednhjabPe
import Derived.ArgAppend
namespace Go.Proofs.Ytabnimgpednhjab.Pf
open Go.RowKit Go.Maps Go.WideMaps
set_option maxRecDepth 100000

theorem flatW_cons (a : Nat × Int) (l : List (Nat × Int)) : flatW (a :: l) = .int .i64 a.1 :: .int .i64 a.2 :: flatW l := by simp [flatW]
theorem flatW_len (l : List (Nat × Int)) : (flatW l).length = l.length * 2 := by
  induction l with
  | nil => rfl
  | cons a l ih => rw [flatW_cons]; simp only [List.length_cons, ih]; omega
theorem flatW_set (l : List (Nat × Int)) (k : Nat) (p : Nat × Int) : flatW (l.set k p) = ((flatW l).set (k * 2) (.int .i64 p.1)).set (k * 2 + 1) (.int .i64 p.2) := by
  induction l generalizing k with
  | nil => simp [flatW]
  | cons a l ih =>
    cases k with
    | zero => simp [flatW_cons]
    | succ k =>
      rw [List.set_cons_succ, flatW_cons, flatW_cons, ih, show (k + 1) * 2 = k * 2 + 1 + 1 by omega]
      rfl
theorem flatW_at {l : List (Nat × Int)} {j : Nat} (hj : j < l.length) : (flatW l)[j * 2]? = some (.int .i64 l[j].1) ∧ (flatW l)[j * 2 + 1]? = some (.int .i64 l[j].2) := by
  induction l generalizing j with
  | nil => simp at hj
  | cons a l ih =>
    rw [flatW_cons]
    cases j with
    | zero => simp
    | succ j =>
      have h := ih (j := j) (by simpa using hj)
      rw [show (j + 1) * 2 = j * 2 + 2 by omega]
      simpa using h
section
variable {w : World} {X : Nat → Prop} {R S W nS nW : Nat} {vc vs : Value} {wk : Int} {cg cc : Nat → Nat} {wv : Int → Value} {B : Bd}
theorem Mb.putW (h : Mb w X R S W nS nW vc vs wk cg cc wv B) {nt : Int} {g n0 cap : Nat} (hv : wv nt = .slice (some ⟨g, 0, none⟩) n0 cap) (k : Nat) (p : Nat × Int) :
    Mb ((w.setCell ⟨g, k * 2, none⟩ (.int .i64 p.1)).setCell ⟨g, k * 2 + 1, none⟩ (.int .i64 p.2)) X R S W nS nW vc vs wk cg cc wv { B with wt := upd B.wt nt ((B.wt nt).set k p) } := by
  have hwm := h.wm
  obtain ⟨D, h1, h2⟩ := hwm
  have hrow := h.wl nt
  rw [hv] at hrow
  have hgW : W ≠ g := fun e => row_nmap hrow h1 (by rw [e]; rfl)
  have hself : upd wv nt (wv nt) = wv := by
    funext x
    unfold upd
    split
    · rename_i e; rw [e]
    · rfl
  have far : ∀ k', k' ≠ g → ((w.setCell ⟨g, k * 2, none⟩ (.int .i64 p.1)).setCell ⟨g, k * 2 + 1, none⟩ (.int .i64 p.2)).heap[k']? = w.heap[k']? := fun k' hk' => (Below.heap_setCell _ _ _ _ hk').trans (Below.heap_setCell _ _ _ _ hk')
  have hm := h.setWatch (w3 := (w.setCell ⟨g, k * 2, none⟩ (.int .i64 p.1)).setCell ⟨g, k * 2 + 1, none⟩ (.int .i64 p.2)) (X' := X) (nW' := nW) (n := nt) (v' := wv nt) (l' := (B.wt nt).set k p)
    (fun g' _ _ hne => far g' (fun e => hne (by rw [hv, e]; rfl))) (fun _ e => e) (by rw [hself]; exact h.wm.same (far W hgW)) ?_ (fun g' e => h.xl nt g' e) (fun g' e => .inl e) (fun g' e => by rw [size_set, size_set]; exact h.xb g' e)
  · rw [hself] at hm
    exact hm
  · rw [hv, List.length_set]
    refine ⟨by rw [flatW_len, List.length_set], ?_⟩
    rcases hrow.2 with ⟨e, _⟩ | ⟨g', c, cur, e, hb, hg, e1, e2, e3, e4⟩
    · cases e
    · injection e with a1 a2 a3
      injection a1 with a1
      injection a1 with a1
      subst a1 a2 a3
      refine .inr ⟨g, cap, (cur.setIfInBounds (k * 2) (.int .i64 p.1)).setIfInBounds (k * 2 + 1) (.int .i64 p.2), rfl, Nat.zero_le _, heap_setCell_same _ _ _ _ _ _ (heap_setCell_same _ _ _ _ _ _ hg), e1, e2, by simpa using e3, ?_⟩
      rw [Array.toList_setIfInBounds, Array.toList_setIfInBounds, List.take_set, List.take_set, e4, flatW_set]
end
end Go.Proofs.Ytabnimgpednhjab.Pf

namespace Go.Proofs.Ytabnimgpednhjab.Pf
open Go.RowKit Go.Maps Go.WideMaps
set_option maxRecDepth 100000

theorem wpList_append_in (w : World) {ops : Array Oper} {rest : List Oper} {o : Oper} {a : Act} {Q : Exit → Act → World → Prop} (hg : o.guard = none) (s x : Operand) (hop : o.op = Op.call { callee := Callee.builtin Builtin.append, args := #[s, x], argTypes := #[123, 123] })
    (g len cap : Nat) (hs : a.eval s = .slice (some ⟨g, 0, none⟩) len cap) (ad : Addr) (m c : Nat) (news : List Value) (hx : a.eval x = .slice (some ad) m c) (hl : news.length = m * 2) (hnews : ∀ j u, news[j]? = some u → w.cell? (ad.add j) = some u) (h1 : ∀ u ∈ news, u.oneCell' = true)
    (hroom : len + m ≤ cap) (hc : ∀ j, j < news.length → (w.cell? ⟨g, len * 2 + j, none⟩).isSome = true) (hf : ∀ j, j < news.length → w.frozen? ⟨g, len * 2 + j, none⟩ = false)
    (hK : wpList Try.prog ops Q rest (a.put o.dst (.slice (some ⟨g, 0, none⟩) (len + m) cap)) (w.setCells g (len * 2) news)) : wpList Try.prog ops Q (o :: rest) a w := by
  obtain ⟨i0, hi, hz0, hz1, hz2⟩ := info_parts info120
  have hrun := run_append_room_cells (P := Try.prog) w 123 o.type 120 i0 Try.underlying123 hi g 0 len cap ad m c news (by rw [hz1]; exact hl) hnews h1 hroom (by rw [hz1]; simpa using hc) (by rw [hz1]; simpa using hf)
  rw [hz1, Nat.zero_add] at hrun
  refine wpList_plain hg fun K' hK' => ?_
  unfold Oper.wp
  simp [execOp, hop, resolve, invoke, builtin, hs, hx, hrun, Result.andThen]
  exact hK' _ _ hK
end Go.Proofs.Ytabnimgpednhjab.Pf

namespace Go.Proofs.Ytabnimgpednhjab.Pf
open Go.RowKit Go.Maps Go.WideMaps
set_option maxRecDepth 100000

/-- At which step a number came to be not so; behind the last one, if it is not. -/
def untilE (st : List Int) (x : Int) : Int := if -x ∈ st then (st.idxOf (-x) : Int) else st.length
set_option maxHeartbeats 1000000 in
theorem until_any (Q : Nat) (x : Int) (hx : Small x) (w : World) (X : Nat → Prop) (R S W nS nW : Nat) (vc vs : Value) (wk : Int) (cg cc : Nat → Nat) (wv : Int → Value) (B : Bd) (h : Mb w X R S W nS nW vc vs wk cg cc wv B) (hQ : w.cell? ⟨Q, 0, none⟩ = some (.pointer (some ⟨R, 0, none⟩))) :
    Calls Try.prog 93 #[.int .i64 x, .pointer (some ⟨Q, 0, none⟩)] w fun e w' => e = .returned (.int .i64 (untilE B.st x)) ∧ w' = w := by
  obtain ⟨c, hl, hc⟩ := look103 h.so hx.neg
  have c1 := h.c1
  have c5 := h.c5
  obtain ⟨ps, cs, rfl⟩ : ∃ p c, vs = .slice p B.sp.length c := by
    rcases h.st.2 with ⟨rfl, e⟩ | ⟨g, cap, cur, rfl, _⟩
    · rw [e]; exact ⟨_, _, rfl⟩
    · exact ⟨_, _, rfl⟩
  have hx1 := hx.1
  have hx2 := hx.2
  have hwn : wrap64 (-x) = -x := wrap_in _ (by omega) (by omega)
  have hln := st_len B
  by_cases hin : -x ∈ B.st
  · have hd : decide (-x ∈ B.st) = true := by simpa using hin
    rw [hd] at hl
    have HE : Hid (untilE B.st x = c) := by
      unfold Hid untilE
      rw [if_pos hin]
      have hlt : B.st.idxOf (-x) < B.st.length := List.idxOf_lt_length_of_mem hin
      have := hc (B.st.idxOf (-x)) (by rw [List.getElem?_eq_getElem hlt, List.getElem_idxOf])
      exact this.symm
    clear h hc hd hin hln
    go_enter Try.func93, Try.ntmps93
    go_wp2_with fail
    go_ret
    exact ⟨ret_int HE.out.symm, rfl⟩
  · have hd : decide (-x ∈ B.st) = false := by simpa using hin
    rw [hd] at hl
    have HE : Hid (untilE B.st x = B.sp.length) := by
      unfold Hid untilE
      rw [if_neg hin, hln]
    clear h hc hd hin hln
    go_enter Try.func93, Try.ntmps93
    go_wp2_with fail
    go_ret
    exact ⟨ret_int HE.out.symm, rfl⟩
end Go.Proofs.Ytabnimgpednhjab.Pf
