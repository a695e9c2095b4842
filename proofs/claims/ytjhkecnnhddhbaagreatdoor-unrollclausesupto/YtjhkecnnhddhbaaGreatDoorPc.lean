/- A board: a clause watches a number. -/
import Derived.Test.YtjhkecnnhddhbaaGreatDoorPbM
namespace Go.Proofs.YtjhkecnnhddhbaaGreatDoor.Pf
open Go.RowKit Go.Maps Go.WideMaps
set_option maxRecDepth 100000
section
variable {w : World} {X : Nat → Prop} {R S W nS nW : Nat} {vc vs : Value} {wk : Int} {cg cc : Nat → Nat} {wv : Int → Value} {B : Bd}
theorem Mb.setWatch {w3 : World} {X' : Nat → Prop} {nW' : Nat} {n : Int} {v' : Value} {l' : List (Nat × Int)} (h : Mb w X R S W nS nW vc vs wk cg cc wv B)
   (hb : ∀ g, g < w.heap.size → g ≠ W → (wv n).ownBlock ≠ some g → w3.heap[g]? = w.heap[g]?) (hx : ∀ g, X g → X' g)
   (hW : Wm w3 W nW' (upd wv n v')) (hrow : w3.ownsRow 0 229 2 v' l'.length (flatW l')) (hxl : ∀ g, v'.ownBlock = some g → X' g) (hnew : ∀ g, v'.ownBlock = some g → (wv n).ownBlock = some g ∨ w.heap.size ≤ g) (hxb : ∀ g, X' g → g < w3.heap.size) :
   Mb w3 X' R S W nS nW' vc vs wk cg cc (upd wv n v') { B with wt := upd B.wt n l' } := by
 have hso := h.so
 have hwm := h.wm
 obtain ⟨D, h1, _⟩ := hso
 obtain ⟨D2, h2, _⟩ := hwm
 have row : ∀ {e : TypeId} {sz : Nat} {v : Value} {m : Nat} {xs : List Value}, e ≠ 229 → w.ownsRow 0 e sz v m xs → w3.ownsRow 0 e sz v m xs := fun he hr => row_same hr fun g hg => hb g (hr.lt g hg).2 (fun e' => row_nmap hr h2 (e' ▸ hg)) (rows_ne hr (h.wl n) he hg)
 refine ⟨(hb R (Array.getElem?_eq_some_iff.1 h.bd).1 (fun e => h.neW e.symm) (row_ne (h.wl n) h.bd (by decide))).trans h.bd, h.so.same (hb S h1.lt h.sw (row_nmap (h.wl n) h1)), hW, row (by decide) h.st, row (by decide) h.rw, fun i hi => row (by decide) (h.cl i hi), fun x => ?_, h.cn, fun x y g hg1 hg2 => ?_, h.sw, hx _ h.xr, hx _ h.xs, hx _ h.xw, fun g e => hx g (h.xt g e), fun g e => hx g (h.xc g e), fun i hi => hx _ (h.xi i hi), fun x g e => ?_, hxb⟩
 · simp only
   by_cases e : x = n
   · subst e
     rw [upd_same, upd_same]
     exact hrow
   · rw [upd_ne _ _ e, upd_ne _ _ e]
     exact row_same (h.wl x) fun g hg => hb g ((h.wl x).lt g hg).2 (fun e' => row_nmap (h.wl x) h2 (e' ▸ hg)) (fun e' => e (h.wn x n g hg e'))
 · by_cases e1 : x = n
   · by_cases e2 : y = n
     · rw [e1, e2]
     · rw [e1, upd_same] at hg1
       rw [upd_ne _ _ e2] at hg2
       rcases hnew g hg1 with e3 | e3
       · exact absurd (h.wn y n g hg2 e3) e2
       · have := ((h.wl y).lt g hg2).2; omega
   · rw [upd_ne _ _ e1] at hg1
     by_cases e2 : y = n
     · rw [e2, upd_same] at hg2
       rcases hnew g hg2 with e3 | e3
       · exact absurd (h.wn x n g hg1 e3) e1
       · have := ((h.wl x).lt g hg1).2; omega
     · rw [upd_ne _ _ e2] at hg2
       exact h.wn x y g hg1 hg2
 · by_cases e1 : x = n
   · rw [e1, upd_same] at e
     exact hxl g e
   · rw [upd_ne _ _ e1] at e
     exact hx g (h.xl x g e)
end
theorem two_news (x y : Int) (w : World) : ∀ j u, ([.int .i64 x, .int .i64 y] : List Value)[j]? = some u → (w.drew.alloc (.cells #[.int .i64 x, .int .i64 y] 229)).cell? ((⟨w.heap.size, 0, none⟩ : Addr).add j) = some u := fun j u hj => by
 match j, hj with
 | 0, hj => simp at hj; subst hj; simp [go_sem, Addr.add]
 | 1, hj => simp at hj; subst hj; simp [go_sem, Addr.add]
theorem two_cell (x y : Int) : ∀ u ∈ ([.int .i64 x, .int .i64 y] : List Value), u.oneCell' = true := fun u hu => by
 simp at hu; rcases hu with rfl | rfl <;> rfl
set_option maxHeartbeats 4000000 in
theorem watch_any (w : World) (X : Nat → Prop) (R S W nS nW : Nat) (vc vs : Value) (wk : Int) (cg cc : Nat → Nat) (wv : Int → Value) (B : Bd) (h : Mb w X R S W nS nW vc vs wk cg cc wv B) (n : Int) (i : Nat) (o : Int) (hn : Small n) (hl : (B.wt n).length ≤ 1000000) (hnW : nW ≤ 1000000000000000000) :
   Calls Tryz.prog 214 #[.pointer (some ⟨R, 0, none⟩), .int .i64 n, .agg #[.int .i64 i, .int .i64 o]] w fun e w' => e = .returned (.tuple #[]) ∧ ∃ X' v', Mb w' X' R S W nS (nW + 1) vc vs wk cg cc (upd wv n v') { B with wt := upd B.wt n (B.wt n ++ [(i, o)]) } ∧ Fr X w w' X' := by
 obtain ⟨i0, hi, hz0, hz1, hz2⟩ := info_parts info120
 have hal : Below w.heap.size w (w.alloc (.cells #[.int .i64 i, .int .i64 o] 229)) := bal (Below.refl _ _) _
 have h0 := h.later hal
 have e0 : (w.alloc (.cells #[.int .i64 i, .int .i64 o] 229)).cell? ⟨w.heap.size, 0, none⟩ = some (.int .i64 i) := by simp [go_sem]
 have e1 : (w.alloc (.cells #[.int .i64 i, .int .i64 o] 229)).cell? ⟨w.heap.size, 1, none⟩ = some (.int .i64 o) := by simp [go_sem]
 have HFA : Hid (Fr X w (w.alloc (.cells #[.int .i64 i, .int .i64 o] 229)) X) := Fr.quiet hal
 clear h hal
 go_enter Tryz.func214, Tryz.ntmps214
 go_wp2_with fail
 generalize hw0 : w.alloc (.cells #[.int .i64 i, .int .i64 o] 229) = w0 at *
 clear hw0
 have c6 := h0.c6
 have hrow := h0.wl n
 have hsl := row_sl hrow
 have hkey := key3 hn
 have H := hide h0
 obtain ⟨D, hD, hDs⟩ := h0.wm
 have HD := hide (And.intro hD hDs)
 have HRW := hide hrow
 have HIN := hide (And.intro hi (And.intro hz0 (And.intro hz1 hz2)))
 generalize hvn : wv n = vn at *
 have HVN := hide hvn
 clear hvn
 have hR1 := World.block_lt_of_cell? _ _ c6
 simp only at hR1
 have hR2 := World.new_ne w0 ⟨R, 6, none⟩ c6
 simp only at hR2
 have hS1 := World.block_lt_of_cell? _ _ e0
 simp only at hS1
 have hS2 := World.new_ne w0 ⟨w.heap.size, 0, none⟩ e0
 simp only at hS2
 have hlk2 : (Instr.lookup 206 (.map (some W)) (.int .i64 n) false).run Tryz.prog w0.drew = .ok vn w0.drew := by
   have := look104 (w := w0.drew) (wv := wv) ⟨D, hD.drew, hDs⟩ hn (by rw [HVN.out]; exact hsl)
   rw [HVN.out] at this
   exact this
 have hlk3 : (Instr.lookup 206 (.map (some W)) (.int .i64 n) false).run Tryz.prog (w0.alloc (.cells #[.int .i64 i, .int .i64 o] 229)).drew = .ok vn (w0.alloc (.cells #[.int .i64 i, .int .i64 o] 229)).drew := by
   have := look104 (w := (w0.alloc (.cells #[.int .i64 i, .int .i64 o] 229)).drew) (wv := wv) ⟨D, (hD.alloc _).drew, hDs⟩ hn (by rw [HVN.out]; exact hsl)
   rw [HVN.out] at this
   exact this
 have HNE : Hid (Value.ownBlock vn ≠ some R) := row_ne hrow h0.bd (by decide)
 have HNW : Hid (Value.ownBlock vn ≠ some W) := row_nmap hrow hD
 have HUP : Hid (∀ (u : World) (v : Value), u.heap[W]? = w0.heap[W]? → IsSl v → ∃ u', (Instr.mapUpdate 206 (.map (some W)) (.int .i64 n) v).run Tryz.prog u = .ok () u' ∧ Wm u' W (nW + 1) (upd wv n v) ∧ u.grownBy u' (some W)) := fun u v hu hv => by
   obtain ⟨u', h1, h2, h3⟩ := (map_same (w1 := u) hD hu).update law3 Tryz.underlying206 (show nW < maxLen by unfold maxLen; omega) hkey (slR_of hv)
   exact ⟨u', h1, Wm.put hD.isMap hDs h2, h3⟩
 have hDl := hD.lt
 clear hi hz0 hz1 hz2 hrow hD hDs h0 hkey
 go_region_law (first
   | (refine step_append_lies _ rfl (.tmp 16) (.tmp 18) 230 rfl 0 229 i0 (.agg #[.int .i64 0, .int .i64 0]) 2 16 Tryz.underlying230 HIN.out.1 HIN.out.2.1 HIN.out.2.2.1 HIN.out.2.2.2 rfl (by decide) _ (B.wt n).length (flatW (B.wt n)) (by simp [Act.eval]) (HRW.out.alloc _) ⟨w0.heap.size, 0, none⟩ 1 1 [.int .i64 i, .int .i64 o] (by simp [Act.eval]) rfl (two_news i o w0) (two_cell i o) (by decide) (by unfold maxLen; omega) (by omega) (by simp) (w0.heap.size + 1) (by simp) ?_
      intro g cap w3 hown3 hg3 hat3 hlt3
      have g6 := hg3.cell (a := ⟨R, 6, none⟩) (past1 c6 _) (fun e => HNE.out e.symm)
      have hb3 : ∀ k, k < w0.heap.size → Value.ownBlock vn ≠ some k → w3.heap[k]? = w0.heap[k]? := fun k hk hne => (hg3.block k (by simp; omega) (fun e => hne e.symm)).trans ((bal (Below.refl _ w0) (.cells #[.int .i64 i, .int .i64 o] 229)).block k hk)
      obtain ⟨w4, hrun4, hwm4, hg4⟩ := HUP.out w3 (.slice (some ⟨g, 0, none⟩) ((B.wt n).length + 1) cap) (hb3 W hDl HNW.out) (.inr ⟨_, _, _, rfl⟩)))
 all_goals
   have hs3 := hg3.size
   simp at hs3
   have hs4 := hg4.size
   have hrow4 : w4.ownsRow 0 229 2 (.slice (some ⟨g, 0, none⟩) ((B.wt n).length + 1) cap) (B.wt n ++ [(i, o)]).length (flatW (B.wt n ++ [(i, o)])) := by
     rw [flatW_app, List.length_append, List.length_singleton]
     refine row_same hown3 fun k hk => hg4.block k (hown3.lt k hk).2 fun e => ?_
     injection e with e
     subst e
     simp only [Value.ownBlock, Option.some.injEq] at hk
     subst hk
     rcases hat3 with e | e
     · exact HNW.out e
     · omega
   have hfar : ∀ k, k < w0.heap.size → k ≠ W → Value.ownBlock vn ≠ some k → w4.heap[k]? = w0.heap[k]? := fun k hk h1 h2 => (hg4.block k (by omega) (by simpa using h1)).trans (hb3 k hk h2)
   have HM : Hid (Mb w4 (fun k => X k ∨ k = g) R S W nS (nW + 1) vc vs wk cg cc (upd wv n (.slice (some ⟨g, 0, none⟩) ((B.wt n).length + 1) cap)) { B with wt := upd B.wt n (B.wt n ++ [(i, o)]) }) :=
     H.out.setWatch (by rw [HVN.out]; exact hfar) (fun k hk => .inl hk) hwm4 hrow4 (fun k hk => by simp [Value.ownBlock] at hk; exact .inr hk.symm) (fun k hk => by
       simp only [Value.ownBlock, Option.some.injEq] at hk
       subst hk
       rw [HVN.out]
       rcases hat3 with e | e
       · exact .inl e
       · exact .inr (by omega)) (fun k hk => by
       rcases hk with hk | rfl
       · have := H.out.xb k hk; omega
       · omega)
   have HF : Hid (Fr X w0 w4 (fun k => X k ∨ k = g)) := by
     refine ⟨hg4.os.trans hg3.os, hg4.tape.trans hg3.tape, hg4.output.trans hg3.output, by omega, fun k hk hx => hfar k hk (fun e => hx (e ▸ H.out.xw)) (fun e => hx (H.out.xl n k (by rw [HVN.out]; exact e))), fun k hk => .inl hk, fun k hk hx => ?_⟩
     rcases hx with hx | rfl
     · exact hx
     · rcases hat3 with e | e
       · exact H.out.xl n _ (by rw [HVN.out]; exact e)
       · omega
   have HFF := hide (HFA.out.trans HF.out)
   clear hown3 hg3 hat3 hlt3 g6 hb3 hrun4 hwm4 hg4 hrow4 hfar HF HFA
   go_end0
   exact ⟨rfl, _, _, HM.out, HFF.out⟩
end Go.Proofs.YtjhkecnnhddhbaaGreatDoor.Pf
