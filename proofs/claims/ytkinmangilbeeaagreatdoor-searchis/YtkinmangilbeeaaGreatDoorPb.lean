/- A board: a number is put in. -/
import Derived.Test.YtkinmangilbeeaaGreatDoorPaM
import Derived.Deep.RegionLaw
import Derived.Deep.RegionHeld3
import Derived.Deep.QuietTactic
import Derived.BigQuiet
namespace Go.Proofs.YtkinmangilbeeaaGreatDoor.Pf
open Go.RowKit Go.Maps Go.WideMaps
set_option maxRecDepth 100000
theorem info115 : (Tryz.prog.info? 76).map (fun i => (i.zero, i.size, i.bytes)) = some (some (.agg #[.int .i64 0, .int .i64 0, .int .i64 0]), 3, 24) := by kernel_rfl
theorem info120 : (Tryz.prog.info? 73).map (fun i => (i.zero, i.size, i.bytes)) = some (some (.agg #[.int .i64 0, .int .i64 0]), 2, 16) := by kernel_rfl

theorem row_ne {w : World} {base : Nat} {e T : TypeId} {sz : Nat} {v : Value} {n : Nat} {xs : List Value} {b : Nat} {cs : Array Value} {fr : Nat × Nat} (hown : w.ownsRow base e sz v n xs) (hb : w.heap[b]? = some (.cells cs T fr)) (hTe : T ≠ e) : v.ownBlock ≠ some b := by
  rcases hown.2 with ⟨rfl, _⟩ | ⟨g, cap, cur, rfl, _, hg, _⟩
  · simp [Value.ownBlock]
  · intro h
    simp only [Value.ownBlock, Option.some.injEq] at h
    subst h
    rw [hg] at hb
    simp only [Option.some.injEq, Obj.cells.injEq] at hb
    exact hTe hb.2.1.symm
/-- Two rows of things of different kinds lie in different blocks. -/
theorem rows_ne {w : World} {b1 b2 : Nat} {e1 e2 : TypeId} {s1 s2 : Nat} {v1 v2 : Value} {n1 n2 : Nat} {x1 x2 : List Value} (h1 : w.ownsRow b1 e1 s1 v1 n1 x1) (h2 : w.ownsRow b2 e2 s2 v2 n2 x2) (he : e1 ≠ e2) {g : Nat} (hg : v1.ownBlock = some g) : v2.ownBlock ≠ some g := by
  rcases h1.2 with ⟨rfl, _⟩ | ⟨g1, cap, cur, rfl, _, hg1, _⟩
  · simp [Value.ownBlock] at hg
  · simp only [Value.ownBlock, Option.some.injEq] at hg
    subst hg
    exact row_ne h2 hg1 he
theorem row_nmap {w : World} {base : Nat} {e : TypeId} {sz : Nat} {v : Value} {n : Nat} {xs : List Value} (hown : w.ownsRow base e sz v n xs) {H : Type} {P : Program} {k : TypeId} {R : Value → Option (DataW H × List MemPlace)} {b m : Nat} {D : DataW H} (hm : w.ownsMap P k R b m D) : v.ownBlock ≠ some b := by
  obtain ⟨es, cl, h1, _⟩ := hm
  rcases hown.2 with ⟨rfl, _⟩ | ⟨g, cap, cur, rfl, _, hg, _⟩
  · simp [Value.ownBlock]
  · intro h
    simp only [Value.ownBlock, Option.some.injEq] at h
    subst h
    rw [hg] at h1
    cases h1
theorem heap_nmap {w : World} {H : Type} {P : Program} {k : TypeId} {R : Value → Option (DataW H × List MemPlace)} {b m : Nat} {D : DataW H} (hm : w.ownsMap P k R b m D) {g : Nat} {cs : Array Value} {T : TypeId} {fr : Nat × Nat} (hg : w.heap[g]? = some (.cells cs T fr)) : b ≠ g := by
  obtain ⟨es, cl, h1, _⟩ := hm
  intro e
  subst e
  rw [hg] at h1
  cases h1

theorem size_set (w : World) (q : Addr) (u : Value) : (w.setCell q u).heap.size = w.heap.size := by
  simp
section
variable {w : World} {X : Nat → Prop} {R S W nS nW : Nat} {vc vs : Value} {wk : Int} {cg cc : Nat → Nat} {wv : Int → Value} {B : Bd}
theorem Mb.neS (h : Mb w X R S W nS nW vc vs wk cg cc wv B) : S ≠ R := by obtain ⟨D, h1, _⟩ := h.so; exact heap_nmap h1 h.bd
theorem Mb.neW (h : Mb w X R S W nS nW vc vs wk cg cc wv B) : W ≠ R := by obtain ⟨D, h1, _⟩ := h.wm; exact heap_nmap h1 h.bd
/-- Only the board's own block, and what it says of itself, has changed. -/
theorem Mb.board {w1 : World} (h : Mb w X R S W nS nW vc vs wk cg cc wv B) (hs : w.heap.size ≤ w1.heap.size) (hb : ∀ g, g ≠ R → w1.heap[g]? = w.heap[g]?) (level : Int) (lost : Bool) (spread : Nat) (wk' : Int)
    (hR : w1.heap[R]? = some (.cells #[vc, vs, .int .i64 level, .bool lost, .int .i64 wk', .map (some S), .map (some W), .int .i64 spread] 66 (0, 0))) : Mb w1 X R S W nS nW vc vs wk' cg cc wv { B with level := level, lost := lost, spread := spread } := by
  have row : ∀ {e : TypeId} {sz : Nat} {v : Value} {n : Nat} {xs : List Value}, 66 ≠ e → w.ownsRow 0 e sz v n xs → w1.ownsRow 0 e sz v n xs := fun he hr => row_same hr fun g hg => hb g fun e' => row_ne hr h.bd he (e' ▸ hg)
  exact ⟨hR, h.so.same (hb S h.neS), h.wm.same (hb W h.neW), row (by decide) h.st, row (by decide) h.rw, fun i hi => row (by decide) (h.cl i hi), fun x => row (by decide) (h.wl x), h.cn, h.wn, h.sw, h.xr, h.xs, h.xw, h.xt, h.xc, h.xi, h.xl, fun g hg => Nat.lt_of_lt_of_le (h.xb g hg) hs⟩
theorem Mb.work (h : Mb w X R S W nS nW vc vs wk cg cc wv B) (k : Int) : Mb (w.setCell ⟨R, 4, none⟩ (.int .i64 k)) X R S W nS nW vc vs k cg cc wv B :=
  h.board ((Below.refl 0 w).setCell (Nat.zero_le _) _).size (fun g hg => Below.heap_setCell _ _ _ _ hg) B.level B.lost B.spread k (by rw [heap_setCell_same _ _ _ _ _ _ h.bd]; rfl)
theorem Fr.set {q : Addr} (hq : X q.block) (u : Value) : Fr X w (w.setCell q u) X := by
  have hb : Below 0 w (w.setCell q u) := (Below.refl 0 w).setCell (Nat.zero_le _) u
  exact ⟨hb.os, hb.tape, hb.output, hb.size, fun g _ hx => Below.heap_setCell _ _ _ _ fun e => hx (e ▸ hq), fun _ e => e, fun _ _ e => e⟩
theorem Fr.grown {w1 : World} {row : Option Nat} (hg : w.grownBy w1 row) (hr : ∀ g, row = some g → X g) : Fr X w w1 X := ⟨hg.os, hg.tape, hg.output, hg.size, fun g h hx => hg.block g h fun e => hx (hr g e.symm), fun _ e => e, fun _ _ e => e⟩
/-- A number, and its step, are put in. -/
theorem Mb.put {w3 : World} {X' : Nat → Prop} {vs' : Value} {wk' : Int} {n c : Int} (h : Mb w X R S W nS nW vc vs wk cg cc wv B)
    (hb : ∀ g, g < w.heap.size → g ≠ R → g ≠ S → vs.ownBlock ≠ some g → w3.heap[g]? = w.heap[g]?) (hx : ∀ g, X g → X' g)
    (hR : w3.heap[R]? = some (.cells #[vc, vs', .int .i64 B.level, .bool B.lost, .int .i64 wk', .map (some S), .map (some W), .int .i64 B.spread] 66 (0, 0)))
    (hS : Sm w3 S (nS + 1) (B.st ++ [n])) (hst : w3.ownsRow 0 76 3 vs' (B.sp.length + 1) (flatS (B.sp ++ [(n, B.level, c)]))) (hxt : ∀ g, vs'.ownBlock = some g → X' g) (hxb : ∀ g, X' g → g < w3.heap.size) :
    Mb w3 X' R S W (nS + 1) nW vc vs' wk' cg cc wv (B.put n c) := by
  have hso := h.so
  have hwm := h.wm
  obtain ⟨D, h1, _⟩ := hso
  obtain ⟨D2, h2, _⟩ := hwm
  have row : ∀ {e : TypeId} {sz : Nat} {v : Value} {m : Nat} {xs : List Value}, 66 ≠ e → e ≠ 76 → w.ownsRow 0 e sz v m xs → w3.ownsRow 0 e sz v m xs := fun he he2 hr => row_same hr fun g hg => hb g (hr.lt g hg).2 (fun e' => row_ne hr h.bd he (e' ▸ hg)) (fun e' => row_nmap hr h1 (e' ▸ hg)) (rows_ne hr h.st he2 hg)
  refine ⟨hR, ?_, h.wm.same (hb W h2.lt h.neW (fun e => h.sw e.symm) (row_nmap h.st h2)), ?_, row (by decide) (by decide) h.rw, fun i hi => row (by decide) (by decide) (h.cl i hi), fun x => row (by decide) (by decide) (h.wl x), h.cn, h.wn, h.sw, hx _ h.xr, hx _ h.xs, hx _ h.xw, hxt, fun g e => hx g (h.xc g e), fun i hi => hx _ (h.xi i hi), fun x g e => hx g (h.xl x g e), hxb⟩
  · rw [st_put]; exact hS
  · have : (B.put n c).sp.length = B.sp.length + 1 := by simp [Bd.put]
    rw [this]; exact hst
end

/-- An entry is put into a map that is owned. -/
theorem step_mapUpdate {ops : Array Oper} {o : Oper} {a : Act} {w : World} {K : Act → World → Prop} {Q : Exit → Act → World → Prop} {E : Prop} {H : Type}
    (hg : o.guard = none) (m x v : Operand) (t : TypeId) (hop : o.op = Op.mapUpdate t m x v) (k e : TypeId) (L : Keyed Tryz.prog k) (ht : Tryz.prog.underlying t = some (.map k e)) (R : Value → Option (DataW H × List MemPlace)) (b n : Nat) (D : DataW H)
    (hm : a.eval m = .map (some b)) (hown : w.ownsMap Tryz.prog k R b n D) (hn : n < maxLen) (key val : Value) (kl : Lit) (hx : a.eval x = key) (hv : a.eval v = val) (hkey : keyOf Tryz.prog k key = some kl)
    (d : DataW H) (ps : List MemPlace) (hval : R val = some (d, ps))
    (hK : ∀ w', w'.ownsMap Tryz.prog k R b (n + 1) (D.put kl d) → w.grownBy w' (some b) → K (a.put o.dst undef) w') :
    if Region.wanted o (yielded ops a.tmps) = true then Oper.wp Tryz.prog o a w K Q else E := by
  have hw : Region.wanted o (yielded ops a.tmps) = true := by simp [Region.wanted, hg]
  rw [if_pos hw]
  obtain ⟨w', hrun, r1, r2⟩ := hown.update L ht hn hkey hval
  unfold Oper.wp
  simp [execOp, hop, hm, hx, hv, hrun, Result.andThen]
  exact hK w' r1 r2

theorem three_news (x y z : Int) (w : World) : ∀ j u, ([.int .i64 x, .int .i64 y, .int .i64 z] : List Value)[j]? = some u → (w.drew.alloc (.cells #[.int .i64 x, .int .i64 y, .int .i64 z] 76)).cell? ((⟨w.heap.size, 0, none⟩ : Addr).add j) = some u := fun j u hj => by
  match j, hj with
  | 0, hj => simp at hj; subst hj; simp [go_sem, Addr.add]
  | 1, hj => simp at hj; subst hj; simp [go_sem, Addr.add]
  | 2, hj => simp at hj; subst hj; simp [go_sem, Addr.add]
theorem three_cell (x y z : Int) : ∀ u ∈ ([.int .i64 x, .int .i64 y, .int .i64 z] : List Value), u.oneCell' = true := fun u hu => by
  simp at hu; rcases hu with rfl | rfl | rfl <;> rfl

set_option maxHeartbeats 4000000 in
theorem put_any (w : World) (X : Nat → Prop) (R S W nS nW : Nat) (vc vs : Value) (wk : Int) (cg cc : Nat → Nat) (wv : Int → Value) (B : Bd) (h : Mb w X R S W nS nW vc vs wk cg cc wv B) (n c : Int) (hn : Small n) (hno : n ∉ B.st) (hl : B.sp.length ≤ 1000000) (hnS : nS ≤ 1000000000000000) :
    Calls Tryz.prog 43 #[.pointer (some ⟨R, 0, none⟩), .int .i64 n, .int .i64 c] w fun e w' => e = .returned (.tuple #[]) ∧ ∃ X' vs' wk', Mb w' X' R S W (nS + 1) nW vc vs' wk' cg cc wv (B.put n c) ∧ Fr X w w' X' := by
  obtain ⟨i0, hi, hz0, hz1, hz2⟩ := info_parts info115
  have c4 := h.c4
  have f4 := h.fz 4
  obtain ⟨ps, cs, rfl⟩ : ∃ p c, vs = .slice p B.sp.length c := by
    rcases h.st.2 with ⟨rfl, h0⟩ | ⟨g, cap, cur, rfl, _⟩
    · rw [h0]; exact ⟨_, _, rfl⟩
    · exact ⟨_, _, rfl⟩
  have H1 := hide (h.work (wrap64 (wk + 1)))
  have HF1 : Hid (Fr X w (w.setCell ⟨R, 4, none⟩ (.int .i64 (wrap64 (wk + 1)))) X) := Fr.set (q := ⟨R, 4, none⟩) h.xr _
  have hHS := h.so
  clear hHS
  go_enter Tryz.func43, Tryz.ntmps43
  go_wp2_with fail
  clear c4 f4 h
  generalize w.setCell ⟨R, 4, none⟩ (.int .i64 (wrap64 (wk + 1))) = w1 at *
  generalize wrap64 (wk + 1) = wk1 at *
  have c1 := H1.out.c1
  have c5 := H1.out.c5
  obtain ⟨D, hD, hDs⟩ := H1.out.so
  have HD := hide hD
  have hst := st_len B
  have HNP := hide (hDs.put hD.isMap hno)
  have hkey := key3 hn
  obtain ⟨w2, hrun2, hown2, hg2⟩ := hD.drew.update law3 Tryz.underlying62 (show nS < maxLen by unfold maxLen; omega) hkey (plainElem_int Tryz.underlying3 (a := (B.sp.length : Int)) (WalkArith.wf_i64 (by omega)))
  have hSR := H1.out.neS
  have d1 : w2.cell? ⟨R, 1, none⟩ = some (.slice ps B.sp.length cs) := hg2.cell c1 (by simpa using fun e => hSR e.symm)
  have d5 : w2.cell? ⟨R, 5, none⟩ = some (.map (some S)) := hg2.cell c5 (by simpa using fun e => hSR e.symm)
  go_region_held3 (fun w' => w'.cell? ⟨R, 1, none⟩ = some (.slice ps B.sp.length cs) ∧ w'.cell? ⟨R, 5, none⟩ = some (.map (some S))) (first | exact ⟨c1, c5⟩ | exact ⟨d1, d5⟩ | go_keep) (fail)
  have hrow2 : w2.ownsRow 0 76 3 (.slice ps B.sp.length cs) B.sp.length (flatS B.sp) := row_same H1.out.st fun g hg => hg2.block g (H1.out.st.lt g hg).2 (fun e => row_nmap H1.out.st HD.out (hg.trans e))
  have d2 : w2.cell? ⟨R, 2, none⟩ = some (.int .i64 B.level) := hg2.cell H1.out.c2 (by simpa using fun e => hSR e.symm)
  have hb2 : w2.heap[R]? = some (.cells #[vc, .slice ps B.sp.length cs, .int .i64 B.level, .bool B.lost, .int .i64 wk1, .map (some S), .map (some W), .int .i64 B.spread] 66 (0, 0)) := (hg2.block R (Array.getElem?_eq_some_iff.1 H1.out.bd).1 (by simpa using fun e => hSR e.symm)).trans H1.out.bd
  have e1 : w2.frozen? ⟨R, 1, none⟩ = false := Lib.frozen_of_heap hb2 1
  have HB2 := hide hb2
  have HRW := hide hrow2
  have HO2 := hide hown2
  have HG2 := hide hg2
  have HIN := hide (And.intro hi (And.intro hz0 (And.intro hz1 hz2)))
  have hR1 := World.block_lt_of_cell? _ _ d1
  simp only at hR1
  have hR2 := World.new_ne w2 ⟨R, 1, none⟩ d1
  simp only at hR2
  have HNE : Hid (Value.ownBlock (.slice ps B.sp.length cs) ≠ some R) := row_ne hrow2 hb2 (by decide)
  clear c1 c5 d5 hown2 hg2 hrow2 hrun2 hi hz0 hz1 hz2 hb2 hD
  go_wp2_with fail
  go_region_law (first
    | (refine step_append_lies _ rfl (.tmp 27) (.tmp 35) 64 rfl 0 76 i0 (.agg #[.int .i64 0, .int .i64 0, .int .i64 0]) 3 24 Tryz.underlying64 HIN.out.1 HIN.out.2.1 HIN.out.2.2.1 HIN.out.2.2.2 rfl (by decide) _ B.sp.length (flatS B.sp) (by simp [Act.eval]) (HRW.out.alloc _) ⟨w2.heap.size, 0, none⟩ 1 1 [.int .i64 n, .int .i64 B.level, .int .i64 c] (by simp [Act.eval]) rfl (three_news n B.level c w2) (three_cell n B.level c) (by decide) (by unfold maxLen; omega) (by omega) (by simp) (w2.heap.size + 1) (by simp) ?_
       intro g cap w3 hown3 hg3 hat3 hlt3
       have g1 := hg3.cell (a := ⟨R, 1, none⟩) (past1 d1 _) (fun e => HNE.out e.symm)
       have f2 : w3.frozen? ⟨R, 1, none⟩ = false := (grown_frozen hg3 (past1 d1 _) (fun e => HNE.out e.symm)).trans (((bal (Below.refl _ _) _).frozen (World.block_lt_of_cell? _ _ d1)).trans e1)))
  all_goals
    have hs2 : w1.heap.size ≤ w2.heap.size := HG2.out.size
    have ha : Below w2.heap.size w2 (w2.alloc (.cells #[.int .i64 n, .int .i64 B.level, .int .i64 c] 76)) := bal (Below.refl _ _) _
    have hs3 := hg3.size
    have h3 : ∀ k, k < w2.heap.size → Value.ownBlock (.slice ps B.sp.length cs) ≠ some k → w3.heap[k]? = w2.heap[k]? := fun k hk hne => (hg3.block k (by have := ha.size; simp at this ⊢; omega) (fun e => hne e.symm)).trans (ha.block k hk)
    have t3 := (h3 R hR1 HNE.out).trans HB2.out
    have hSb : Value.ownBlock (.slice ps B.sp.length cs) ≠ some S := row_nmap HRW.out HO2.out
    have hm4 := map_same (w1 := w3.setCell ⟨R, 1, none⟩ (.slice (some ⟨g, 0, none⟩) (B.sp.length + 1) cap)) HO2.out ((Below.heap_setCell _ _ _ _ hSR).trans (h3 S HO2.out.lt hSb))
    have HFN : Hid (∀ k, k < w1.heap.size → k ≠ R → k ≠ S → Value.ownBlock (.slice ps B.sp.length cs) ≠ some k → (w3.setCell ⟨R, 1, none⟩ (.slice (some ⟨g, 0, none⟩) (B.sp.length + 1) cap)).heap[k]? = w1.heap[k]?) := fun k hk h1 h2 h4 => (Below.heap_setCell _ _ _ _ h1).trans ((h3 k (by omega) h4).trans (HG2.out.block k hk (by simpa using h2)))
    have hne3 := row_ne hown3 t3 (by decide)
    rw [hst] at HNP
    have HM : Hid (Mb (w3.setCell ⟨R, 1, none⟩ (.slice (some ⟨g, 0, none⟩) (B.sp.length + 1) cap)) (fun k => X k ∨ k = g) R S W (nS + 1) nW vc (.slice (some ⟨g, 0, none⟩) (B.sp.length + 1) cap) wk1 cg cc wv (B.put n c)) :=
      H1.out.put HFN.out (fun k hk => .inl hk) (by rw [heap_setCell_same _ _ _ _ _ _ t3]; rfl) ⟨_, hm4, HNP.out⟩ (by rw [flatS_app]; exact ownsRow_setCell_other hown3 hne3 _) (fun k hk => by simp [Value.ownBlock] at hk; exact .inr hk.symm) (fun k hk => by
        have hz : (w3.setCell ⟨R, 1, none⟩ (.slice (some ⟨g, 0, none⟩) (B.sp.length + 1) cap)).heap.size = w3.heap.size := size_set _ _ _
        rcases hk with hk | rfl
        · have := H1.out.xb k hk; have := ha.size; simp at this hs3; omega
        · omega)
    have HF : Hid (Fr X w1 (w3.setCell ⟨R, 1, none⟩ (.slice (some ⟨g, 0, none⟩) (B.sp.length + 1) cap)) (fun k => X k ∨ k = g)) := by
      have hb0 : Below 0 w1 (w3.setCell ⟨R, 1, none⟩ (.slice (some ⟨g, 0, none⟩) (B.sp.length + 1) cap)) := ((((Below.refl 0 w1).drew.grown HG2.out (Nat.zero_le _) (fun _ _ => Nat.zero_le _)).trans (ha.mono (Nat.zero_le _)).drew).grown hg3 (Nat.zero_le _) (fun _ _ => Nat.zero_le _)).setCell (Nat.zero_le _) _
      refine ⟨hb0.os, hb0.tape, hb0.output, hb0.size, fun k hk hx => HFN.out k hk (fun e => hx (e ▸ H1.out.xr)) (fun e => hx (e ▸ H1.out.xs)) (fun e => hx (H1.out.xt k e)), fun k hk => .inl hk, fun k hk hx => ?_⟩
      rcases hx with hx | rfl
      · exact hx
      · rcases hat3 with e | e
        · exact H1.out.xt _ e
        · omega
    have HFF := hide (HF1.out.trans HF.out)
    clear hown3 hg3 hat3 hlt3 g1 f2 ha h3 t3 hm4 HFN hne3 HNP HF HF1
    go_end0
    exact ⟨rfl, _, _, _, HM.out, HFF.out⟩
end Go.Proofs.YtkinmangilbeeaaGreatDoor.Pf
