/- A board is taken back to a level. -/
import Derived.Test.YtkinmangilbeeaaGreatDoorUhM
namespace Go.Proofs.YtkinmangilbeeaaGreatDoor.Pf
open Go.RowKit Go.Maps Go.WideMaps
set_option maxRecDepth 100000

/-- Back to a level: the first k steps stay. -/
def Bd.backTo (B : Bd) (k : Nat) (lv : Int) : Bd := { B with sp := B.sp.take k, level := lv, spread := min B.spread k }
section
variable {w : World} {X : Nat → Prop} {R S W nS nW : Nat} {vc : Value} {wk : Int} {cg cc : Nat → Nat} {wv : Int → Value} {B : Bd}
theorem Mb.backTo {w1 : World} {ps : Option Addr} {cs k : Nat} (h : Mb w X R S W nS nW vc (.slice ps B.sp.length cs) wk cg cc wv B) (lv : Int) (hk : k ≤ B.sp.length) (hs : w.heap.size ≤ w1.heap.size) (hb : ∀ g, g ≠ R → g ≠ S → w1.heap[g]? = w.heap[g]?) (hS : Sm w1 S nS (B.st.take k))
    (hR : w1.heap[R]? = some (.cells #[vc, .slice ps k cs, .int .i64 lv, .bool B.lost, .int .i64 wk, .map (some S), .map (some W), .int .i64 ((min B.spread k : Nat) : Int)] 66 (0, 0))) : Mb w1 X R S W nS nW vc (.slice ps k cs) wk cg cc wv (B.backTo k lv) := by
  have hso := h.so
  obtain ⟨D, h1, _⟩ := hso
  have row : ∀ {e : TypeId} {sz : Nat} {v : Value} {n : Nat} {xs : List Value}, 66 ≠ e → w.ownsRow 0 e sz v n xs → w1.ownsRow 0 e sz v n xs := fun he hr => row_same hr fun g hg => hb g (fun e' => row_ne hr h.bd he (e' ▸ hg)) (fun e' => row_nmap hr h1 (e' ▸ hg))
  have hst : (B.backTo k lv).st = B.st.take k := by unfold Bd.st Bd.backTo; rw [List.map_take]
  have hsl : (B.backTo k lv).sp = B.sp.take k := rfl
  have hsp : (B.backTo k lv).spread = min B.spread k := rfl
  refine ⟨by rw [hsp]; exact hR, by rw [hst]; exact hS, h.wm.same (hb W h.neW (fun e => h.sw e.symm)), ?_, row (by decide) h.rw, fun i hi => row (by decide) (h.cl i hi), fun x => row (by decide) (h.wl x), h.cn, h.wn, h.sw, h.xr, h.xs, h.xw, fun g e => h.xt g (by cases ps <;> exact e), h.xc, h.xi, h.xl, fun g hg => Nat.lt_of_lt_of_le (h.xb g hg) hs⟩
  rw [hsl, show (B.sp.take k).length = k by rw [List.length_take]; omega]
  exact row_take (row (by decide) h.st) rfl hk
end
def loadA2 : Op := .load 64 (.tmp 52)
theorem loadA2_fold : Op.load 64 (.tmp 52) = loadA2 := rfl
theorem loadA2_is : loadA2 = Op.load 64 (.tmp 52) := rfl
def loadB2 : Op := .load 3 (.tmp 59)
theorem loadB2_fold : Op.load 3 (.tmp 59) = loadB2 := rfl
theorem loadB2_is : loadB2 = Op.load 3 (.tmp 59) := rfl
attribute [local go_sem] loadA2_is
attribute [local go_sem] loadB2_is

/-- What Back leaves: the steps that are undone are told. -/
def BkOut (w : World) (X : Nat → Prop) (R S W nS nW : Nat) (vc : Value) (wk : Int) (cg cc : Nat → Nat) (wv : Int → Value) (B : Bd) (k : Nat) (lv : Int) (e : Ending) (w' : World) : Prop :=
  ∃ ad cp vs', e = .returned (.slice ad (B.sp.length - k) cp) ∧ (k < B.sp.length → ∃ g, ad = some ⟨g, k * 3, none⟩ ∧ X g ∧ ∀ j, k + j < B.sp.length → w'.cell? ⟨g, k * 3 + j * 3, none⟩ = some (.int .i64 (B.st.getD (k + j) 0)) ∧ (∃ y, w'.cell? ⟨g, k * 3 + j * 3 + 1, none⟩ = some (.int .i64 y)) ∧ ∃ y, w'.cell? ⟨g, k * 3 + j * 3 + 2, none⟩ = some (.int .i64 y)) ∧ Mb w' X R S W nS nW vc vs' wk cg cc wv (B.backTo k lv) ∧ Fr X w w' X
set_option maxHeartbeats 4000000 in
theorem backTo_any (w : World) (X : Nat → Prop) (R S W nS nW : Nat) (vc vs : Value) (wk : Int) (cg cc : Nat → Nat) (wv : Int → Value) (B : Bd) (h : Mb w X R S W nS nW vc vs wk cg cc wv B) (k : Nat) (hk : k ≤ B.sp.length) (lv : Int) (h0 : ∀ s ∈ B.sp.take k, s.2.1 ≤ lv) (h1 : ∀ s ∈ B.sp.drop k, lv < s.2.1) (hsn : B.st.Nodup) (hsm : ∀ x ∈ B.st, Small x) (hl : B.sp.length ≤ 1000000) (hsp : B.spread ≤ B.sp.length) :
    Calls Tryz.prog 34 #[.pointer (some ⟨R, 0, none⟩), .int .i64 lv] w (BkOut w X R S W nS nW vc wk cg cc wv B k lv) := by
  obtain ⟨ps, cs, rfl⟩ : ∃ p c, vs = .slice p B.sp.length c := by
    rcases h.st.2 with ⟨rfl, e⟩ | ⟨g, cap, cur, rfl, _⟩
    · rw [e]; exact ⟨_, _, rfl⟩
    · exact ⟨_, _, rfl⟩
  have c1 := h.c1
  have H := hide h
  have HL0 : Hid (∀ j (hj : j < B.sp.length), j < k → B.sp[j].2.1 ≤ lv) := fun j hj hjk => h0 _ (by
    rw [List.mem_iff_getElem]; exact ⟨j, by rw [List.length_take]; omega, by rw [List.getElem_take]⟩)
  have HL1 : Hid (∀ j (hj : j < B.sp.length), k ≤ j → lv < B.sp[j].2.1) := fun j hj hjk => h1 _ (by
    rw [List.mem_iff_getElem]; exact ⟨j - k, by rw [List.length_drop]; omega, by rw [List.getElem_drop]; congr 1; omega⟩)
  have HCE : Hid (∀ W' : World, (∀ g, g ≠ R → g ≠ S → W'.heap[g]? = w.heap[g]?) → k < B.sp.length → ∃ g, ps = some ⟨g, 0, none⟩ ∧ (cs ≠ k ∧ X g) ∧ ∀ j, k + j < B.sp.length → W'.cell? ⟨g, k * 3 + j * 3, none⟩ = some (.int .i64 (B.st.getD (k + j) 0)) ∧ (∃ y, W'.cell? ⟨g, k * 3 + j * 3 + 1, none⟩ = some (.int .i64 y)) ∧ ∃ y, W'.cell? ⟨g, k * 3 + j * 3 + 2, none⟩ = some (.int .i64 y)) := by
    intro W' hW hk
    obtain ⟨D', h1', _⟩ := h.so
    rcases h.st.2 with ⟨e, e0⟩ | ⟨g, cap, cur, e, _, _, h10, _⟩
    · omega
    · injection e with e1 _ e3
      subst e1
      have hgR : g ≠ R := fun e' => row_ne h.st h.bd (by decide) (e' ▸ rfl)
      have hgS : g ≠ S := fun e' => row_nmap h.st h1' (e' ▸ rfl)
      refine ⟨g, rfl, ⟨by omega, h.xt g rfl⟩, fun j hj => ?_⟩
      have hcell : ∀ d u, (flatS B.sp)[(k + j) * 3 + d]? = some u → W'.cell? ⟨g, k * 3 + j * 3 + d, none⟩ = some u := fun d u hu => by
        rw [World.cell?_of_block (w := w) (hW g hgR hgS), show (⟨g, k * 3 + j * 3 + d, none⟩ : Addr) = (⟨g, 0, none⟩ : Addr).add ((k + j) * 3 + d) by rw [Addr.add_lit, Nat.zero_add, Nat.add_mul]]
        exact h.st.cells (g := g) rfl _ _ hu
      refine ⟨?_, ⟨_, hcell 1 _ (flatS_at hj).2.1⟩, ⟨_, hcell 2 _ (flatS_at hj).2.2⟩⟩
      have h00 := hcell 0 _ (flatS_at hj).1
      rw [Nat.add_zero] at h00
      rw [h00]
      unfold Bd.st
      rw [List.getD_eq_getElem?_getD, List.getElem?_map, List.getElem?_eq_getElem hj]
      rfl
  have HSN := hide hsn
  have HSM := hide hsm
  clear h h0 h1 hsn hsm
  refine calls_of_wp Tryz.func34 rfl ?_
  simp only [Tryz.ntmps34, List.size_toArray, List.length_cons, List.length_nil, Nat.reduceAdd, Nat.reduceSub, Array.replicate_succ, Array.replicate_zero, List.push_toArray, List.append_toArray, List.nil_append, List.cons_append]
  go_wp2_with fail
  go_loopw [5] (fun t wr => ∃ m : Nat, k ≤ m ∧ m ≤ B.sp.length ∧ t = .int .i64 m ∧ Hid (Sm wr S nS (B.st.take m) ∧ (∀ g, g ≠ S → wr.heap[g]? = w.heap[g]?) ∧ Fr X w wr X ∧ w.heap.size ≤ wr.heap.size)) (fun t _ => (intOf t).toNat)
  case atStart =>
    refine ⟨B.sp.length, hk, Nat.le_refl _, rfl, ?_, fun g _ => rfl, Fr.refl _ _, Nat.le_refl _⟩
    rw [List.take_of_length_le (by rw [st_len]; exact Nat.le_refl _)]
    exact H.out.so
  case round =>
    obtain ⟨m, hkm, hml, rfl, HJ⟩ := hrel
    have cR : wr.heap[R]? = w.heap[R]? := HJ.out.2.1 R (fun e => H.out.neS e.symm)
    have c1 : wr.cell? ⟨R, 1, none⟩ = some (.slice ps B.sp.length cs) := by rw [World.cell?_of_block (w := w) cR]; exact H.out.c1
    have c5 : wr.cell? ⟨R, 5, none⟩ = some (.map (some S)) := by rw [World.cell?_of_block (w := w) cR]; exact H.out.c5
    have c7 : wr.cell? ⟨R, 7, none⟩ = some (.int .i64 B.spread) := by rw [World.cell?_of_block (w := w) cR]; exact H.out.c7
    have f1 : wr.frozen? ⟨R, 1, none⟩ = false := by rw [World.frozen?_of_block (w := w) cR]; exact H.out.fz 1
    have f2 : wr.frozen? ⟨R, 2, none⟩ = false := by rw [World.frozen?_of_block (w := w) cR]; exact H.out.fz 2
    have f7 : wr.frozen? ⟨R, 7, none⟩ = false := by rw [World.frozen?_of_block (w := w) cR]; exact H.out.fz 7
    have c2 : wr.cell? ⟨R, 2, none⟩ = some (.int .i64 B.level) := by rw [World.cell?_of_block (w := w) cR]; exact H.out.c2
    have hcap : B.sp.length ≤ cs := by
      rcases H.out.st.2 with ⟨e, e0⟩ | ⟨g, cap, cur, e, _, _, h10, _⟩
      · omega
      · injection e with _ _ e3
        omega
    by_cases hmk : m = k
    · subst hmk
      have hkl : (m : Int) ≤ (B.sp.length : Int) := by omega
      have hkc : (m : Int) ≤ (cs : Int) := by omega
      have hspi : (B.spread : Int) ≤ (B.sp.length : Int) := by omega
      have hRlt : R ≠ S := fun e => H.out.neS e.symm
      have bR := cR.trans H.out.bd
      have HM : Hid (Mb (((wr.setCell ⟨R, 1, none⟩ (.slice ps m cs)).setCell ⟨R, 2, none⟩ (.int .i64 lv)).setCell ⟨R, 7, none⟩ (.int .i64 (if m < B.spread then (m : Int) else (B.spread : Int)))).drew X R S W nS nW vc (.slice ps m cs) wk cg cc wv (B.backTo m lv)) := by
        refine H.out.backTo lv hml (by simp; exact HJ.out.2.2.2) (fun g hg hgS => ?_) (HJ.out.1.same ?_) ?_
        · exact (Below.heap_setCell _ _ _ _ hg).trans ((Below.heap_setCell _ _ _ _ hg).trans ((Below.heap_setCell _ _ _ _ hg).trans (HJ.out.2.1 g hgS)))
        · exact (Below.heap_setCell _ _ _ _ H.out.neS).trans ((Below.heap_setCell _ _ _ _ H.out.neS).trans (Below.heap_setCell _ _ _ _ H.out.neS))
        · have e1 : (wr.setCell ⟨R, 1, none⟩ (.slice ps m cs)).heap[R]? = _ := heap_setCell_same _ _ _ _ _ _ bR
          have e2 : ((wr.setCell ⟨R, 1, none⟩ (.slice ps m cs)).setCell ⟨R, 2, none⟩ (.int .i64 lv)).heap[R]? = _ := heap_setCell_same _ _ _ _ _ _ e1
          have e3 : (((wr.setCell ⟨R, 1, none⟩ (.slice ps m cs)).setCell ⟨R, 2, none⟩ (.int .i64 lv)).setCell ⟨R, 7, none⟩ (.int .i64 (if m < B.spread then (m : Int) else (B.spread : Int)))).heap[R]? = _ := heap_setCell_same _ _ _ _ _ _ e2
          refine Eq.trans e3 ?_
          have e4 : (if m < B.spread then (m : Int) else (B.spread : Int)) = ((min B.spread m : Nat) : Int) := by split <;> omega
          rw [e4]
          rfl
      have HF : Hid (Fr X w (((wr.setCell ⟨R, 1, none⟩ (.slice ps m cs)).setCell ⟨R, 2, none⟩ (.int .i64 lv)).setCell ⟨R, 7, none⟩ (.int .i64 (if m < B.spread then (m : Int) else (B.spread : Int)))).drew X) :=
        (((HJ.out.2.2.1.trans (Fr.set (q := ⟨R, 1, none⟩) H.out.xr _)).trans (Fr.set (q := ⟨R, 2, none⟩) H.out.xr _)).trans (Fr.set (q := ⟨R, 7, none⟩) H.out.xr _)).trans (Fr.quiet (Below.refl _ _).drew)
      have HCW : Hid (m < B.sp.length → ∃ g, ps = some ⟨g, 0, none⟩ ∧ (cs ≠ m ∧ X g) ∧ ∀ j, m + j < B.sp.length → ((((wr.setCell ⟨R, 1, none⟩ (.slice ps m cs)).setCell ⟨R, 2, none⟩ (.int .i64 lv)).setCell ⟨R, 7, none⟩ (.int .i64 (if m < B.spread then (m : Int) else (B.spread : Int)))).drew).cell? ⟨g, m * 3 + j * 3, none⟩ = some (.int .i64 (B.st.getD (m + j) 0)) ∧ (∃ y, ((((wr.setCell ⟨R, 1, none⟩ (.slice ps m cs)).setCell ⟨R, 2, none⟩ (.int .i64 lv)).setCell ⟨R, 7, none⟩ (.int .i64 (if m < B.spread then (m : Int) else (B.spread : Int)))).drew).cell? ⟨g, m * 3 + j * 3 + 1, none⟩ = some (.int .i64 y)) ∧ ∃ y, ((((wr.setCell ⟨R, 1, none⟩ (.slice ps m cs)).setCell ⟨R, 2, none⟩ (.int .i64 lv)).setCell ⟨R, 7, none⟩ (.int .i64 (if m < B.spread then (m : Int) else (B.spread : Int)))).drew).cell? ⟨g, m * 3 + j * 3 + 2, none⟩ = some (.int .i64 y)) :=
        HCE.out _ (fun g hg hgS => (Below.heap_setCell _ _ _ _ hg).trans ((Below.heap_setCell _ _ _ _ hg).trans ((Below.heap_setCell _ _ _ _ hg).trans (HJ.out.2.1 g hgS))))
      by_cases hm0 : m = 0
      · have hmi : ¬ (0 : Int) < (m : Int) := by omega
        have HM0 := hide hm0
        clear hm0 bR cR
        go_upto_region 6 with fail
        simp only [loadA2_fold, loadB2_fold]
        go_region_held3 (fun _ => True) (trivial) (fail)
        all_goals
          have HAD : Hid (m < B.sp.length → ∃ g, (if cs = m then ps else Option.map (fun x => x.add (m * 3)) ps) = some ⟨g, m * 3, none⟩ ∧ X g ∧ ∀ j, m + j < B.sp.length → ((((wr.setCell ⟨R, 1, none⟩ (.slice ps m cs)).setCell ⟨R, 2, none⟩ (.int .i64 lv)).setCell ⟨R, 7, none⟩ (.int .i64 (if m < B.spread then (m : Int) else (B.spread : Int)))).drew).cell? ⟨g, m * 3 + j * 3, none⟩ = some (.int .i64 (B.st.getD (m + j) 0)) ∧ (∃ y, ((((wr.setCell ⟨R, 1, none⟩ (.slice ps m cs)).setCell ⟨R, 2, none⟩ (.int .i64 lv)).setCell ⟨R, 7, none⟩ (.int .i64 (if m < B.spread then (m : Int) else (B.spread : Int)))).drew).cell? ⟨g, m * 3 + j * 3 + 1, none⟩ = some (.int .i64 y)) ∧ ∃ y, ((((wr.setCell ⟨R, 1, none⟩ (.slice ps m cs)).setCell ⟨R, 2, none⟩ (.int .i64 lv)).setCell ⟨R, 7, none⟩ (.int .i64 (if m < B.spread then (m : Int) else (B.spread : Int)))).drew).cell? ⟨g, m * 3 + j * 3 + 2, none⟩ = some (.int .i64 y)) := fun hlt => by
            obtain ⟨g, h1, h2, h3⟩ := HCW.out hlt
            exact ⟨g, by rw [if_neg h2.1, h1]; simp [Addr.add], h2.2, h3⟩
          generalize (if m < B.spread then (m : Int) else (B.spread : Int)) = mn at *
          generalize (if cs = m then ps else Option.map (fun x => x.add (m * 3)) ps) = ad at *
          go_wp2_with fail
          go_ret
          exact ⟨_, _, _, rfl, HAD.out, HM.out, HF.out⟩
      · have hmi : (0 : Int) < (m : Int) := by omega
        obtain ⟨m1, hm1⟩ : ∃ m1 : Nat, m = m1 + 1 := ⟨m - 1, by omega⟩
        have hm1l : m1 < B.sp.length := by omega
        have hm1i : (m1 : Int) < (B.sp.length : Int) := by omega
        obtain ⟨g, hps, s1⟩ : ∃ g, ps = some ⟨g, 0, none⟩ ∧ wr.cell? ⟨g, m1 * 3 + 1, none⟩ = some (.int .i64 B.sp[m1].2.1) := by
          rcases H.out.st.2 with ⟨e, e0⟩ | ⟨g, cap, cur, e, _⟩
          · omega
          · injection e with e1 _ _
            subst e1
            refine ⟨g, rfl, ?_⟩
            have hc := H.out.st.cells (g := g) rfl _ _ (flatS_at hm1l).2.1
            rw [World.cell?_of_block (w := w) (HJ.out.2.1 g (fun e' => row_nmap H.out.st (Classical.choose_spec H.out.so).1 (e' ▸ rfl)))]
            rw [show (⟨g, m1 * 3 + 1, none⟩ : Addr) = (⟨g, 0, none⟩ : Addr).add (m1 * 3 + 1) by simp [Addr.add]]
            exact hc
        have hlvn : ¬ lv < B.sp[m1].2.1 := by have := HL0.out m1 hm1l (by omega); omega
        generalize B.sp[m1].2.1 = lvv at *
        subst hps
        rw [show m1 = m - 1 by omega] at s1
        have HM1 := hide hm1
        have hmm : m - 1 < B.sp.length := by omega
        have hmmi : (m : Int) - 1 < (B.sp.length : Int) := by omega
        have hmm0 : (0 : Int) ≤ (m : Int) - 1 := by omega
        clear hm0 hm1 bR cR
        go_upto_region 6 with fail
        simp only [loadA2_fold, loadB2_fold]
        go_region_held3 (fun _ => True) (trivial) (fail)
        all_goals
          have HAD : Hid (m < B.sp.length → ∃ g', (if cs = m then some (⟨g, 0, none⟩ : Addr) else some ⟨g, m * 3, none⟩) = some ⟨g', m * 3, none⟩ ∧ X g' ∧ ∀ j, m + j < B.sp.length → ((((wr.setCell ⟨R, 1, none⟩ (.slice (some ⟨g, 0, none⟩) m cs)).setCell ⟨R, 2, none⟩ (.int .i64 lv)).setCell ⟨R, 7, none⟩ (.int .i64 (if m < B.spread then (m : Int) else (B.spread : Int)))).drew).cell? ⟨g', m * 3 + j * 3, none⟩ = some (.int .i64 (B.st.getD (m + j) 0)) ∧ (∃ y, ((((wr.setCell ⟨R, 1, none⟩ (.slice (some ⟨g, 0, none⟩) m cs)).setCell ⟨R, 2, none⟩ (.int .i64 lv)).setCell ⟨R, 7, none⟩ (.int .i64 (if m < B.spread then (m : Int) else (B.spread : Int)))).drew).cell? ⟨g', m * 3 + j * 3 + 1, none⟩ = some (.int .i64 y)) ∧ ∃ y, ((((wr.setCell ⟨R, 1, none⟩ (.slice (some ⟨g, 0, none⟩) m cs)).setCell ⟨R, 2, none⟩ (.int .i64 lv)).setCell ⟨R, 7, none⟩ (.int .i64 (if m < B.spread then (m : Int) else (B.spread : Int)))).drew).cell? ⟨g', m * 3 + j * 3 + 2, none⟩ = some (.int .i64 y)) := fun hlt => by
            obtain ⟨g', h1, h2, h3⟩ := HCW.out hlt
            injection h1 with h1
            injection h1 with h1
            subst h1
            exact ⟨g, by rw [if_neg h2.1], h2.2, h3⟩
          generalize (if m < B.spread then (m : Int) else (B.spread : Int)) = mn at *
          generalize (if cs = m then some (⟨g, 0, none⟩ : Addr) else some ⟨g, m * 3, none⟩) = ad at *
          go_wp2_with fail
          go_ret
          exact ⟨_, _, _, rfl, HAD.out, HM.out, HF.out⟩
    · have hkm2 : k < m := by omega
      have hmi : (0 : Int) < (m : Int) := by omega
      obtain ⟨m1, hm1⟩ : ∃ m1 : Nat, m = m1 + 1 := ⟨m - 1, by omega⟩
      have hm1l : m1 < B.sp.length := by omega
      have hm1i : (m1 : Int) < (B.sp.length : Int) := by omega
      obtain ⟨g, hps, s1, s0⟩ : ∃ g, ps = some ⟨g, 0, none⟩ ∧ wr.cell? ⟨g, m1 * 3 + 1, none⟩ = some (.int .i64 B.sp[m1].2.1) ∧ wr.cell? ⟨g, m1 * 3, none⟩ = some (.int .i64 B.sp[m1].1) := by
        rcases H.out.st.2 with ⟨e, e0⟩ | ⟨g, cap, cur, e, _⟩
        · omega
        · injection e with e1 _ _
          subst e1
          have hb := HJ.out.2.1 g (fun e' => row_nmap H.out.st (Classical.choose_spec H.out.so).1 (e' ▸ rfl))
          refine ⟨g, rfl, ?_, ?_⟩
          · rw [World.cell?_of_block (w := w) hb, show (⟨g, m1 * 3 + 1, none⟩ : Addr) = (⟨g, 0, none⟩ : Addr).add (m1 * 3 + 1) by simp [Addr.add]]
            exact H.out.st.cells (g := g) rfl _ _ (flatS_at hm1l).2.1
          · rw [World.cell?_of_block (w := w) hb, show (⟨g, m1 * 3, none⟩ : Addr) = (⟨g, 0, none⟩ : Addr).add (m1 * 3) by simp [Addr.add]]
            exact H.out.st.cells (g := g) rfl _ _ (flatS_at hm1l).1
      have hlv := HL1.out m1 hm1l (by omega)
      have hstm : m1 < B.st.length := by rw [st_len]; exact hm1l
      have hsx : B.st[m1] = B.sp[m1].1 := by simp [Bd.st]
      have hsmx := HSM.out B.sp[m1].1 (hsx ▸ List.getElem_mem hstm)
      have htk : B.st.take m = B.st.take m1 ++ [B.sp[m1].1] := by rw [hm1, List.take_succ_eq_append_getElem hstm, hsx]
      have hnin : B.sp[m1].1 ∉ B.st.take m1 := by
        intro e
        obtain ⟨j, hj, e⟩ := List.getElem_of_mem e
        rw [List.length_take] at hj
        rw [List.getElem_take, ← hsx] at e
        have := nodup_inj HSN.out (by omega) hstm e
        omega
      obtain ⟨D, hD, hDs⟩ := HJ.out.1
      rw [htk] at hDs
      have HDS := hide (hDs.del hnin)
      obtain ⟨w2, hrun2, hown2, htu2⟩ := hD.drew.drop law3 Tryz.underlying62 (key3 hsmx) 0
      have hg2 := htu2.grown
      have HN : Hid (Sm w2 S nS (B.st.take m1) ∧ (∀ g, g ≠ S → w2.heap[g]? = w.heap[g]?) ∧ Fr X w w2 X ∧ w.heap.size ≤ w2.heap.size) := by
        have hfs := hg2.size
        have heq : ∀ g, g ≠ S → w2.heap[g]? = wr.heap[g]? := fun g hg => by
          obtain ⟨es, clk, es', clk', e1, e2⟩ := htu2
          rw [e2]
          exact ChangeMaps.heap_setBlock_other e1 _ hg
        exact ⟨⟨_, hown2, HDS.out⟩, fun g hg => (heq g hg).trans (HJ.out.2.1 g hg), HJ.out.2.2.1.trans ⟨hg2.os, hg2.tape, hg2.output, hfs, fun g _ hx => heq g (fun e => hx (e ▸ H.out.xs)), fun _ e => e, fun _ _ e => e⟩, Nat.le_trans HJ.out.2.2.2 hfs⟩
      have HM1 : Hid (m1 + 1 = m) := hm1.symm
      have HEQ := hide HJ.out.2.1
      have HLW := hide hlv
      clear hown2 htu2 hg2 hD hDs HDS hsx htk hnin hstm hsmx HJ cR hlv
      generalize B.sp[m1].2.1 = lw at *
      generalize B.sp[m1].1 = x at *
      subst hps
      rw [show m1 = m - 1 by omega] at s1 s0
      have hmm : m - 1 < B.sp.length := by omega
      have hmmi : (m : Int) - 1 < (B.sp.length : Int) := by omega
      have hmm0 : (0 : Int) ≤ (m : Int) - 1 := by omega
      have hlvd : lv < lw := HLW.out
      clear hm1 f1 f2 f7 c2 c7
      have hgS : g ≠ S := fun e => by
        obtain ⟨D', h1', _⟩ := H.out.so
        exact row_nmap H.out.st h1' (e ▸ rfl)
      have hRS : R ≠ S := fun e => H.out.neS e.symm
      have d1 : w2.cell? ⟨R, 1, none⟩ = some (.slice (some ⟨g, 0, none⟩) B.sp.length cs) := by rw [World.cell?_of_block (w := w) (HN.out.2.1 R hRS)]; exact H.out.c1
      have d5 : w2.cell? ⟨R, 5, none⟩ = some (.map (some S)) := by rw [World.cell?_of_block (w := w) (HN.out.2.1 R hRS)]; exact H.out.c5
      have e0 : w2.cell? ⟨g, (m - 1) * 3, none⟩ = some (.int .i64 x) := by rw [World.cell?_of_block (w := wr) ((HN.out.2.1 g hgS).trans (HEQ.out g hgS).symm)]; exact s0
      clear hgS hRS
      obtain ⟨mm, hmm2⟩ : ∃ mm : Nat, m - 1 = mm := ⟨_, rfl⟩
      have hme : (m : Int) - 1 = (mm : Int) := by omega
      have t0 := s0
      rw [hmm2] at t0 e0
      have HME := hide hme
      have HM2 := hide hmm2
      have hmmn : mm < B.sp.length := by omega
      have hmmni : (mm : Int) < (B.sp.length : Int) := by omega
      clear hmm2 hme
      go_upto_region 4 with fail
      simp only [HME.out]
      clear s0 s1 hmmi hmm0 hmm
      go_region_held3 (fun w' => w'.cell? ⟨R, 1, none⟩ = some (.slice (some ⟨g, 0, none⟩) B.sp.length cs) ∧ w'.cell? ⟨R, 5, none⟩ = some (.map (some S)) ∧ w'.cell? ⟨g, mm * 3, none⟩ = some (.int .i64 x)) (first | exact ⟨c1, c5, t0⟩ | exact ⟨d1, d5, e0⟩ | go_keep) (fail)
      go_wp2_with fail
      go_roundw
      case rel =>
        refine ⟨mm, by have := HM2.out; omega, by omega, rfl, ?_⟩
        rw [show mm = m1 by have := HM2.out; have := HM1.out; omega]
        exact HN
      case measure => have := HM2.out; simp [intOf]; omega
end Go.Proofs.YtkinmangilbeeaaGreatDoor.Pf
