/- A board: a clause watches a number. -/
import Derived.Test.YtabnimgpednhjabPb
namespace Go.Proofs.Ytabnimgpednhjab.Pf
open Go.RowKit Go.Maps Go.WideMaps
set_option maxRecDepth 100000

section
variable {w : World} {X : Nat → Prop} {R S W nS nW : Nat} {vc vs : Value} {wk : Int} {cg cc : Nat → Nat} {wv : Int → Value} {B : Bd}
/-- Who watches a number has changed, and nothing else. -/
theorem Mb.setWatch {w3 : World} {X' : Nat → Prop} {nW' : Nat} {n : Int} {v' : Value} {l' : List (Nat × Int)} (h : Mb w X R S W nS nW vc vs wk cg cc wv B)
    (hb : ∀ g, g < w.heap.size → g ≠ W → (wv n).ownBlock ≠ some g → w3.heap[g]? = w.heap[g]?) (hx : ∀ g, X g → X' g)
    (hW : Wm w3 W nW' (upd wv n v')) (hrow : w3.ownsRow 0 120 2 v' l'.length (flatW l')) (hxl : ∀ g, v'.ownBlock = some g → X' g) (hnew : ∀ g, v'.ownBlock = some g → (wv n).ownBlock = some g ∨ w.heap.size ≤ g) (hxb : ∀ g, X' g → g < w3.heap.size) :
    Mb w3 X' R S W nS nW' vc vs wk cg cc (upd wv n v') { B with wt := upd B.wt n l' } := by
  have hso := h.so
  have hwm := h.wm
  obtain ⟨D, h1, _⟩ := hso
  obtain ⟨D2, h2, _⟩ := hwm
  have row : ∀ {e : TypeId} {sz : Nat} {v : Value} {m : Nat} {xs : List Value}, e ≠ 120 → w.ownsRow 0 e sz v m xs → w3.ownsRow 0 e sz v m xs := fun he hr => row_same hr fun g hg => hb g (hr.lt g hg).2 (fun e' => row_nmap hr h2 (e' ▸ hg)) (rows_ne hr (h.wl n) he hg)
  refine ⟨(hb R (Array.getElem?_eq_some_iff.1 h.bd).1 (fun e => h.neW e.symm) (row_ne (h.wl n) h.bd (by decide))).trans h.bd, h.so.same (hb S h1.lt h.sw (row_nmap (h.wl n) h1)), hW, row (by decide) h.st, row (by decide) h.rw, fun i hi => row (by decide) (h.cl i hi), fun x => ?_, h.cn, fun x y g hg1 hg2 => ?_, h.sw, hx _ h.xr, hx _ h.xs, hx _ h.xw, fun g e => hx g (h.xt g e), fun g e => hx g (h.xc g e), fun i hi => hx _ (h.xi i hi), fun x g e => ?_, hxb⟩
  · simp only
    by_cases e : x = n
    · subst e
      rw [upd_same, upd_same]
      exact hrow
    · rw [upd_ne _ _ e, upd_ne _ _ e]
      exact row_same (h.wl x) fun g hg => hb g ((h.wl x).lt g hg).2 (fun e' => row_nmap (h.wl x) h2 (e' ▸ hg)) (fun e' => e (h.wn x n g hg e'))
  · by_cases e1 : x = n
    · by_cases e2 : y = n
      · rw [e1, e2]
      · rw [e1, upd_same] at hg1
        rw [upd_ne _ _ e2] at hg2
        rcases hnew g hg1 with e3 | e3
        · exact absurd (h.wn y n g hg2 e3) e2
        · have := ((h.wl y).lt g hg2).2; omega
    · rw [upd_ne _ _ e1] at hg1
      by_cases e2 : y = n
      · rw [e2, upd_same] at hg2
        rcases hnew g hg2 with e3 | e3
        · exact absurd (h.wn x n g hg1 e3) e1
        · have := ((h.wl x).lt g hg1).2; omega
      · rw [upd_ne _ _ e2] at hg2
        exact h.wn x y g hg1 hg2
  · by_cases e1 : x = n
    · rw [e1, upd_same] at e
      exact hxl g e
    · rw [upd_ne _ _ e1] at e
      exact hx g (h.xl x g e)
end
theorem two_news (x y : Int) (w : World) : ∀ j u, ([.int .i64 x, .int .i64 y] : List Value)[j]? = some u → (w.drew.alloc (.cells #[.int .i64 x, .int .i64 y] 120)).cell? ((⟨w.heap.size, 0, none⟩ : Addr).add j) = some u := fun j u hj => by
  match j, hj with
  | 0, hj => simp at hj; subst hj; simp [go_sem, Addr.add]
  | 1, hj => simp at hj; subst hj; simp [go_sem, Addr.add]
theorem two_cell (x y : Int) : ∀ u ∈ ([.int .i64 x, .int .i64 y] : List Value), u.oneCell' = true := fun u hu => by
  simp at hu; rcases hu with rfl | rfl <;> rfl

set_option maxHeartbeats 4000000 in
theorem watch_any (w : World) (X : Nat → Prop) (R S W nS nW : Nat) (vc vs : Value) (wk : Int) (cg cc : Nat → Nat) (wv : Int → Value) (B : Bd) (h : Mb w X R S W nS nW vc vs wk cg cc wv B) (n : Int) (i : Nat) (o : Int) (hn : Small n) (hl : (B.wt n).length ≤ 1000000) (hnW : nW ≤ 1000000000000000000) :
    Calls Try.prog 88 #[.pointer (some ⟨R, 0, none⟩), .int .i64 n, .agg #[.int .i64 i, .int .i64 o]] w fun e w' => e = .returned (.tuple #[]) ∧ ∃ X' v', Mb w' X' R S W nS (nW + 1) vc vs wk cg cc (upd wv n v') { B with wt := upd B.wt n (B.wt n ++ [(i, o)]) } ∧ Fr X w w' X' := by
  obtain ⟨i0, hi, hz0, hz1, hz2⟩ := info_parts info120
  have hal : Below w.heap.size w (w.alloc (.cells #[.int .i64 i, .int .i64 o] 120)) := bal (Below.refl _ _) _
  have h0 := h.later hal
  have e0 : (w.alloc (.cells #[.int .i64 i, .int .i64 o] 120)).cell? ⟨w.heap.size, 0, none⟩ = some (.int .i64 i) := by simp [go_sem]
  have e1 : (w.alloc (.cells #[.int .i64 i, .int .i64 o] 120)).cell? ⟨w.heap.size, 1, none⟩ = some (.int .i64 o) := by simp [go_sem]
  have HFA : Hid (Fr X w (w.alloc (.cells #[.int .i64 i, .int .i64 o] 120)) X) := Fr.quiet hal
  clear h hal
  go_enter Try.func88, Try.ntmps88
  go_wp2_with fail
  generalize hw0 : w.alloc (.cells #[.int .i64 i, .int .i64 o] 120) = w0 at *
  clear hw0
  have c6 := h0.c6
  have hrow := h0.wl n
  have hsl := row_sl hrow
  have hkey := key3 hn
  have H := hide h0
  obtain ⟨D, hD, hDs⟩ := h0.wm
  have HD := hide (And.intro hD hDs)
  have HRW := hide hrow
  have HIN := hide (And.intro hi (And.intro hz0 (And.intro hz1 hz2)))
  generalize hvn : wv n = vn at *
  have HVN := hide hvn
  clear hvn
  have hR1 := World.block_lt_of_cell? _ _ c6
  simp only at hR1
  have hR2 := World.new_ne w0 ⟨R, 6, none⟩ c6
  simp only at hR2
  have hS1 := World.block_lt_of_cell? _ _ e0
  simp only at hS1
  have hS2 := World.new_ne w0 ⟨w.heap.size, 0, none⟩ e0
  simp only at hS2
  have hlk2 : (Instr.lookup 104 (.map (some W)) (.int .i64 n) false).run Try.prog w0.drew = .ok vn w0.drew := by
    have := look104 (w := w0.drew) (wv := wv) ⟨D, hD.drew, hDs⟩ hn (by rw [HVN.out]; exact hsl)
    rw [HVN.out] at this
    exact this
  have hlk3 : (Instr.lookup 104 (.map (some W)) (.int .i64 n) false).run Try.prog (w0.alloc (.cells #[.int .i64 i, .int .i64 o] 120)).drew = .ok vn (w0.alloc (.cells #[.int .i64 i, .int .i64 o] 120)).drew := by
    have := look104 (w := (w0.alloc (.cells #[.int .i64 i, .int .i64 o] 120)).drew) (wv := wv) ⟨D, (hD.alloc _).drew, hDs⟩ hn (by rw [HVN.out]; exact hsl)
    rw [HVN.out] at this
    exact this
  have HNE : Hid (Value.ownBlock vn ≠ some R) := row_ne hrow h0.bd (by decide)
  have HNW : Hid (Value.ownBlock vn ≠ some W) := row_nmap hrow hD
  have HUP : Hid (∀ (u : World) (v : Value), u.heap[W]? = w0.heap[W]? → IsSl v → ∃ u', (Instr.mapUpdate 104 (.map (some W)) (.int .i64 n) v).run Try.prog u = .ok () u' ∧ Wm u' W (nW + 1) (upd wv n v) ∧ u.grownBy u' (some W)) := fun u v hu hv => by
    obtain ⟨u', h1, h2, h3⟩ := (map_same (w1 := u) hD hu).update law3 Try.underlying104 (show nW < maxLen by unfold maxLen; omega) hkey (slR_of hv)
    exact ⟨u', h1, Wm.put hD.isMap hDs h2, h3⟩
  have hDl := hD.lt
  clear hi hz0 hz1 hz2 hrow hD hDs h0 hkey
  go_region_law (first
    | (refine step_append_lies _ rfl (.tmp 16) (.tmp 18) 123 rfl 0 120 i0 (.agg #[.int .i64 0, .int .i64 0]) 2 16 Try.underlying123 HIN.out.1 HIN.out.2.1 HIN.out.2.2.1 HIN.out.2.2.2 rfl (by decide) _ (B.wt n).length (flatW (B.wt n)) (by simp [Act.eval]) (HRW.out.alloc _) ⟨w0.heap.size, 0, none⟩ 1 1 [.int .i64 i, .int .i64 o] (by simp [Act.eval]) rfl (two_news i o w0) (two_cell i o) (by decide) (by unfold maxLen; omega) (by omega) (by simp) (w0.heap.size + 1) (by simp) ?_
       intro g cap w3 hown3 hg3 hat3 hlt3
       have g6 := hg3.cell (a := ⟨R, 6, none⟩) (past1 c6 _) (fun e => HNE.out e.symm)
       have hb3 : ∀ k, k < w0.heap.size → Value.ownBlock vn ≠ some k → w3.heap[k]? = w0.heap[k]? := fun k hk hne => (hg3.block k (by simp; omega) (fun e => hne e.symm)).trans ((bal (Below.refl _ w0) (.cells #[.int .i64 i, .int .i64 o] 120)).block k hk)
       obtain ⟨w4, hrun4, hwm4, hg4⟩ := HUP.out w3 (.slice (some ⟨g, 0, none⟩) ((B.wt n).length + 1) cap) (hb3 W hDl HNW.out) (.inr ⟨_, _, _, rfl⟩)))
  all_goals
    have hs3 := hg3.size
    simp at hs3
    have hs4 := hg4.size
    have hrow4 : w4.ownsRow 0 120 2 (.slice (some ⟨g, 0, none⟩) ((B.wt n).length + 1) cap) (B.wt n ++ [(i, o)]).length (flatW (B.wt n ++ [(i, o)])) := by
      rw [flatW_app, List.length_append, List.length_singleton]
      refine row_same hown3 fun k hk => hg4.block k (hown3.lt k hk).2 fun e => ?_
      injection e with e
      subst e
      simp only [Value.ownBlock, Option.some.injEq] at hk
      subst hk
      rcases hat3 with e | e
      · exact HNW.out e
      · omega
    have hfar : ∀ k, k < w0.heap.size → k ≠ W → Value.ownBlock vn ≠ some k → w4.heap[k]? = w0.heap[k]? := fun k hk h1 h2 => (hg4.block k (by omega) (by simpa using h1)).trans (hb3 k hk h2)
    have HM : Hid (Mb w4 (fun k => X k ∨ k = g) R S W nS (nW + 1) vc vs wk cg cc (upd wv n (.slice (some ⟨g, 0, none⟩) ((B.wt n).length + 1) cap)) { B with wt := upd B.wt n (B.wt n ++ [(i, o)]) }) :=
      H.out.setWatch (by rw [HVN.out]; exact hfar) (fun k hk => .inl hk) hwm4 hrow4 (fun k hk => by simp [Value.ownBlock] at hk; exact .inr hk.symm) (fun k hk => by
        simp only [Value.ownBlock, Option.some.injEq] at hk
        subst hk
        rw [HVN.out]
        rcases hat3 with e | e
        · exact .inl e
        · exact .inr (by omega)) (fun k hk => by
        rcases hk with hk | rfl
        · have := H.out.xb k hk; omega
        · omega)
    have HF : Hid (Fr X w0 w4 (fun k => X k ∨ k = g)) := by
      refine ⟨hg4.os.trans hg3.os, hg4.tape.trans hg3.tape, hg4.output.trans hg3.output, by omega, fun k hk hx => hfar k hk (fun e => hx (e ▸ H.out.xw)) (fun e => hx (H.out.xl n k (by rw [HVN.out]; exact e))), fun k hk => .inl hk, fun k hk hx => ?_⟩
      rcases hx with hx | rfl
      · exact hx
      · rcases hat3 with e | e
        · exact H.out.xl n _ (by rw [HVN.out]; exact e)
        · omega
    have HFF := hide (HFA.out.trans HF.out)
    clear hown3 hg3 hat3 hlt3 g6 hb3 hrun4 hwm4 hg4 hrow4 hfar HF HFA
    go_end0
    exact ⟨rfl, _, _, HM.out, HFF.out⟩
end Go.Proofs.Ytabnimgpednhjab.Pf

namespace Go.Proofs.Ytabnimgpednhjab.Pf
open Go.RowKit Go.Maps Go.WideMaps
set_option maxRecDepth 100000

set_option maxHeartbeats 2000000 in
theorem indexJ_any (fn : FuncId) (c : Value) (f : Int → Bool) (l : List Int) (p : Option Addr) (cap : Nat) (w : World) (hl : l.length ≤ maxLen) (J : World → Prop) (hJ : J w) (hI : ∀ wr, J wr → IntsAt wr p l) (hent : ∀ (args : Array Value) (w : World), (callFunc fn args).run Try.prog w = .ok (.enter fn args) w)
    (hcl : ∀ wr, J wr → ∀ i (h : i < l.length), Calls Try.prog fn #[.int .i64 l[i], c] wr fun e w' => e = .returned (.bool (f l[i])) ∧ J w') :
    Calls Try.prog 70 #[.slice p l.length cap, .func (.func fn) #[] #[c]] w fun e w' => e = .returned (.int .i64 (findE f l)) ∧ J w' := by
  have HC : Hid _ := hcl
  have HI : Hid _ := hI
  have HJ : Hid (J w) := hJ
  unfold maxLen at hl
  clear hcl hI hJ
  go_enter Try.func70, Try.ntmps70
  go_wp2
  go_loopw [8] (fun i wr => ∃ k : Nat, k ≤ l.length ∧ i = .int .i64 k ∧ Hid (∀ i (hi : i < l.length), i < k → f l[i] = false) ∧ Hid (J wr)) (fun i _ => l.length - (intOf i).toNat)
  case atStart => exact ⟨0, Nat.zero_le _, rfl, fun i hi h => by omega, HJ⟩
  case round =>
    obtain ⟨k, hk, rfl, hno, hJw⟩ := hrel
    by_cases hlt : k < l.length
    · obtain ⟨b, off, rfl, hc⟩ := HI.out wr hJw.out (by omega)
      have hck := hc k hlt
      have hcall := HC.out wr hJw.out k hlt
      have HH : Hid _ := findE_hit f l k hlt hno.out
      clear hc
      cases hf : f l[k]
      · have HN : Hid (∀ i (hi : i < l.length), i < k + 1 → f l[i] = false) := by
          intro i hi h
          rcases Nat.lt_succ_iff_lt_or_eq.1 h with h1 | rfl
          · exact hno.out i hi h1
          · exact hf
        rw [hf] at hcall
        have HCC : Hid (Unit → _) := fun _ => hcall
        clear hcall hf hno HH
        generalize l[k] = x at *
        go_wp2_with fail
        refine (HCC.out ()).mono ?_
        rintro e w' ⟨rfl, hb2⟩
        have HJ2 := hide hb2
        clear hb2
        go_wp2
        go_roundw
        case rel => exact ⟨k + 1, by omega, by go_num, HN, HJ2⟩
        case measure => simp [intOf]; omega
      · rw [hf] at hcall
        have HCC : Hid (Unit → _) := fun _ => hcall
        have HV : Hid (findE f l = k) := HH.out hf
        clear hcall hf hno HH
        generalize l[k] = x at *
        go_wp2_with fail
        refine (HCC.out ()).mono ?_
        rintro e w' ⟨rfl, hb2⟩
        have HJ2 := hide hb2
        clear hb2
        go_wp2
        go_ret
        exact ⟨ret_int HV.out.symm, HJ2.out⟩
    · have HV : Hid (findE f l = -1) := findE_miss f l (fun i hi => hno.out i hi (by omega))
      go_wp2
      go_ret
      exact ⟨ret_int HV.out.symm, hJw.out⟩

set_option maxHeartbeats 2000000 in
theorem mayBe_any (Q : Nat) (x : Int) (hx : Small x) (w : World) (X : Nat → Prop) (R S W nS nW : Nat) (vc vs : Value) (wk : Int) (cg cc : Nat → Nat) (wv : Int → Value) (B : Bd) (h : Mb w X R S W nS nW vc vs wk cg cc wv B) (hQ : w.cell? ⟨Q, 0, none⟩ = some (.pointer (some ⟨R, 0, none⟩))) :
    Calls Try.prog 94 #[.int .i64 x, .pointer (some ⟨Q, 0, none⟩)] w fun e w' => e = .returned (.bool (!decide (-x ∈ B.st))) ∧ ∃ wk', Mb w' X R S W nS nW vc vs wk' cg cc wv B ∧ Fr X w w' X := by
  have c4 := h.c4
  have f4 := h.fz 4
  have H1 := hide (h.work (wrap64 (wk + 1)))
  have HF1 : Hid (Fr X w (w.setCell ⟨R, 4, none⟩ (.int .i64 (wrap64 (wk + 1)))) X) := Fr.set (q := ⟨R, 4, none⟩) h.xr _
  have HIN := hide (isNot_any R S nS B.st x hx _ H1.out.c5 H1.out.so)
  have hQR : (⟨Q, 0, none⟩ : Addr).block ≠ (⟨R, 4, none⟩ : Addr).block := by
    intro e
    simp only at e
    subst e
    have := h.c0
    rw [hQ] at this
    injection this with this
    rcases h.rw.2 with ⟨e, _⟩ | ⟨g, cap, cur, e, _⟩
    · rw [e] at this; cases this
    · rw [e] at this; cases this
  have q1 : (w.setCell ⟨R, 4, none⟩ (.int .i64 (wrap64 (wk + 1)))).cell? ⟨Q, 0, none⟩ = some (.pointer (some ⟨R, 0, none⟩)) := cell_set_far hQ hQR
  clear h
  generalize decide (-x ∈ B.st) = t at *
  go_enter Try.func94, Try.ntmps94
  go_wp2_with fail
  refine HIN.out.mono ?_
  rintro e w' ⟨rfl, rfl⟩
  go_wp2_with fail
  go_ret
  exact ⟨rfl, _, H1.out, HF1.out⟩

set_option maxHeartbeats 2000000 in
theorem choose_any (w : World) (X : Nat → Prop) (R S W nS nW : Nat) (vc vs : Value) (wk : Int) (cg cc : Nat → Nat) (wv : Int → Value) (B : Bd) (h : Mb w X R S W nS nW vc vs wk cg cc wv B) (n : Int) (hn : Small n) (hno : n ∉ B.st) (hl : B.sp.length ≤ 1000000) (hnS : nS ≤ 1000000000000000) (hlv : 0 ≤ B.level ∧ B.level ≤ 1000000) :
    Calls Try.prog 75 #[.pointer (some ⟨R, 0, none⟩), .int .i64 n] w fun e w' => e = .returned (.tuple #[]) ∧ ∃ X' vs' wk', Mb w' X' R S W (nS + 1) nW vc vs' wk' cg cc wv (B.choose n) ∧ Fr X w w' X' := by
  have c2 := h.c2
  have f2 := h.fz 2
  have H1 : Hid (Mb (w.setCell ⟨R, 2, none⟩ (.int .i64 (B.level + 1))) X R S W nS nW vc vs wk cg cc wv { B with level := B.level + 1 }) :=
    h.board ((Below.refl 0 w).setCell (Nat.zero_le _) _).size (fun g hg => Below.heap_setCell _ _ _ _ hg) (B.level + 1) B.lost B.spread wk (by rw [heap_setCell_same _ _ _ _ _ _ h.bd]; rfl)
  have HF1 : Hid (Fr X w (w.setCell ⟨R, 2, none⟩ (.int .i64 (B.level + 1))) X) := Fr.set (q := ⟨R, 2, none⟩) h.xr _
  have HP := hide (put_any _ X R S W nS nW vc vs wk cg cc wv _ H1.out n (-1) hn hno hl hnS)
  have hw : wrap64 (B.level + 1) = B.level + 1 := by unfold wrap64; omega
  clear h
  go_enter Try.func75, Try.ntmps75
  go_wp2_with fail
  refine HP.out.mono ?_
  rintro e w' ⟨rfl, X', vs', wk', hM, hF⟩
  have HM := hide hM
  have HF := hide (HF1.out.trans hF)
  clear hM hF
  go_wp2_with fail
  go_end0
  exact ⟨rfl, X', vs', wk', HM.out, HF.out⟩

section
variable {w : World} {X : Nat → Prop} {R S W nS nW : Nat} {vc vs : Value} {wk : Int} {cg cc : Nat → Nat} {wv : Int → Value} {B : Bd}
theorem getD_set {A : List (List Int)} {i j : Nat} {c' : List Int} (hi : i < A.length) : (A.set i c').getD j [] = if j = i then c' else A.getD j [] := by
  simp only [List.getD, List.getElem?_set]
  by_cases e : i = j
  · subst e; simp [hi]
  · have e' : ¬ j = i := fun h => e h.symm
    simp [e, e']
/-- The numbers of a clause stand otherwise, and nothing else has changed. -/
theorem Mb.setCl {w1 : World} {i : Nat} {c' : List Int} (h : Mb w X R S W nS nW vc vs wk cg cc wv B) (hi : i < B.cl.length) (hlen : c'.length = (B.cl.getD i []).length) (hs : w.heap.size ≤ w1.heap.size) (hb : ∀ g, g ≠ cg i → w1.heap[g]? = w.heap[g]?)
    (hrow : w1.ownsRow 0 3 1 (.slice (some ⟨cg i, 0, none⟩) c'.length (cc i)) c'.length (c'.map (Value.int .i64))) : Mb w1 X R S W nS nW vc vs wk cg cc wv { B with cl := B.cl.set i c' } := by
  have hso := h.so
  have hwm := h.wm
  obtain ⟨D, h1, _⟩ := hso
  obtain ⟨D2, h2, _⟩ := hwm
  have hci := h.cl i hi
  have hne : ∀ {g : Nat}, g = cg i → Value.ownBlock (.slice (some ⟨cg i, 0, none⟩) (B.cl.getD i []).length (cc i)) = some g := fun e => by rw [e]; rfl
  have row : ∀ {e : TypeId} {sz : Nat} {v : Value} {m : Nat} {xs : List Value}, e ≠ 3 → w.ownsRow 0 e sz v m xs → w1.ownsRow 0 e sz v m xs := fun he hr => row_same hr fun g hg => hb g fun e' => rows_ne hr hci he hg (hne e')
  have hl : (B.cl.set i c').length = B.cl.length := by simp
  refine ⟨(hb R fun e => row_ne hci h.bd (by decide) (hne e)).trans h.bd, h.so.same (hb S fun e => row_nmap hci h1 (hne e)), h.wm.same (hb W fun e => row_nmap hci h2 (hne e)), row (by decide) h.st, ?_, fun j hj => ?_, fun x => row (by decide) (h.wl x), fun a b ha hb' => h.cn a b (by simpa using ha) (by simpa using hb'), h.wn, h.sw, h.xr, h.xs, h.xw, h.xt, h.xc, fun j hj => h.xi j (by simpa using hj), h.xl, fun g hg => Nat.lt_of_lt_of_le (h.xb g hg) hs⟩
  · simp only [hl]
    have : (List.range B.cl.length).map (fun j => (Value.slice (some ⟨cg j, 0, none⟩) ((B.cl.set i c').getD j []).length (cc j))) = (List.range B.cl.length).map (fun j => (Value.slice (some ⟨cg j, 0, none⟩) (B.cl.getD j []).length (cc j))) := by
      refine List.map_congr_left fun j _ => ?_
      rw [getD_set hi]
      split
      · rename_i e; rw [e, hlen]
      · rfl
    rw [this]
    exact row (by decide) h.rw
  · simp only [hl] at hj
    simp only [getD_set hi]
    split
    · rename_i e; rw [e]; exact hrow
    · rename_i e
      refine row_same (h.cl j hj) fun g hg => hb g fun e' => e ?_
      simp only [Value.ownBlock, Option.some.injEq] at hg
      exact h.cn j i hj hi (hg.trans e')
theorem Mb.ints (h : Mb w X R S W nS nW vc vs wk cg cc wv B) {i : Nat} (hi : i < B.cl.length) {j : Nat} (hj : j < (B.cl.getD i []).length) : w.cell? ⟨cg i, j, none⟩ = some (.int .i64 (B.cl.getD i [])[j]) := by
  have := (h.cl i hi).cellAt j (by omega)
  rw [List.getElem?_map, List.getElem?_eq_getElem hj] at this
  exact this
theorem Mb.fzc (h : Mb w X R S W nS nW vc vs wk cg cc wv B) {i : Nat} (hi : i < B.cl.length) (j : Nat) : w.frozen? ⟨cg i, j, none⟩ = false := by
  rcases (h.cl i hi).2 with ⟨e, _⟩ | ⟨g, cap, cur, e, _, hg, _⟩
  · cases e
  · injection e with e
    injection e with e
    injection e with e
    subst e
    exact Lib.frozen_of_heap hg j
/-- One of a clause's numbers is written over. -/
theorem Mb.put1 (h : Mb w X R S W nS nW vc vs wk cg cc wv B) {i : Nat} (hi : i < B.cl.length) (j : Nat) (x : Int) : Mb (w.setCell ⟨cg i, j, none⟩ (.int .i64 x)) X R S W nS nW vc vs wk cg cc wv { B with cl := B.cl.set i ((B.cl.getD i []).set j x) } := by
  refine h.setCl hi (by simp) ((Below.refl 0 w).setCell (Nat.zero_le _) _).size (fun g hg => Below.heap_setCell _ _ _ _ hg) ?_
  rcases h.cl i hi with ⟨hl, hor⟩
  refine ⟨by simp, ?_⟩
  rcases hor with ⟨e, _⟩ | ⟨g, cap, cur, e, hb, hg, hn, hm, hs, ht⟩
  · cases e
  · injection e with e1 e2 e3
    injection e1 with e1
    injection e1 with e1
    subst e1 e3
    refine .inr ⟨cg i, cc i, cur.setIfInBounds j (.int .i64 x), by simp, Nat.zero_le _, heap_setCell_same _ _ _ _ _ _ hg, by simpa using hn, hm, by simpa using hs, ?_⟩
    rw [List.length_set, Array.toList_setIfInBounds, List.take_set, ht, List.map_set]
end
end Go.Proofs.Ytabnimgpednhjab.Pf
