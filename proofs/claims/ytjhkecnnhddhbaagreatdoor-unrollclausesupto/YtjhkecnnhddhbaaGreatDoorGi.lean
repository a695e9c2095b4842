/- Gates: an And is added. -/
import Derived.Test.YtjhkecnnhddhbaaGreatDoorGh
import Derived.Deep.RegionLaw
import Derived.Deep.AppendLies
namespace Go.Proofs.YtjhkecnnhddhbaaGreatDoor
open Go.RowKit Go.Maps Go.WideMaps
set_option maxRecDepth 100000
set_option maxRecDepth 100000

def addLit (ins : Int) (ps : List (Int × Int)) (x : Int × Int) : Int := if 0 ≤ andAt ps ps.length x then 2 * (1 + ins + andAt ps ps.length x) else if 1000000 ≤ ps.length then 0 else 2 * (1 + ins + ps.length)
def addOk (ps : List (Int × Int)) (x : Int × Int) : Bool := decide (0 ≤ andAt ps ps.length x) || decide (ps.length < 1000000)
def addPs (ps : List (Int × Int)) (x : Int × Int) : List (Int × Int) := if 0 ≤ andAt ps ps.length x then ps else if 1000000 ≤ ps.length then ps else ps ++ [x]

theorem lit_inj {c d : Int} (h : (DataW.lit (.int .i64 c) : DataW Unit) = .lit (.int .i64 d)) : c = d := by
  injection h with h
  injection h

theorem look_ok_int {w : World} {B n : Nat} {D : DataW Unit} (h : w.ownsMap Tryz.prog 75 (plainElem (H := Unit) Tryz.prog 3) B n D) {a b : Int} (ha : Wf a) (hb : Wf b) :
    ∃ c, (∀ m, (Instr.lookup 113 (.map (some B)) (arr2 a b) true).run Tryz.prog (w.drewN m) = .ok (.tuple #[.int .i64 c, .bool (Maps.has D (keyL a b))]) (w.drewN m)) ∧ D.atKey (keyL a b) (.lit (.int .i64 0)) = .lit (.int .i64 c) := by
  have h0 : ∀ m, ∃ c, (Instr.lookup 113 (.map (some B)) (arr2 a b) true).run Tryz.prog (w.drewN m) = .ok (.tuple #[.int .i64 c, .bool (Maps.has D (keyL a b))]) (w.drewN m) ∧ D.atKey (keyL a b) (.lit (.int .i64 0)) = .lit (.int .i64 c) := by
    intro m
    obtain ⟨v, ps, h1, h2⟩ := World.ownsMap.look_ok (w := w.drewN m) h law55 Tryz.underlying113 (zero3 _) (plainElem_int Tryz.underlying3 (a := 0) (by decide)) (key55 ha hb)
    obtain ⟨c, rfl, hc, _⟩ := plainElem_int_inv Tryz.underlying3 h2
    simp only [Prod.mk.injEq] at hc
    exact ⟨c, h1, hc.1⟩
  obtain ⟨c, _, h2⟩ := h0 0
  refine ⟨c, fun m => ?_, h2⟩
  obtain ⟨c', h3, h4⟩ := h0 m
  rw [h2] at h4
  cases h4
  exact h3

theorem cell_set_far {w : World} {p q : Addr} {u x : Value} (h : w.cell? q = some x) (hne : q.block ≠ p.block) : (w.setCell p u).cell? q = some x := by
  rw [World.cell?_of_block (w := w) (Below.heap_setCell w p u q.block hne)]; exact h
theorem owns_set {w : World} {base e size n : Nat} {v u : Value} {xs : List Value} {p : Addr} (h : w.ownsRow base e size v n xs) (hne : v.ownBlock ≠ some p.block) : (w.setCell p u).ownsRow base e size v n xs := by
  obtain ⟨h1, h2⟩ := h
  refine ⟨h1, ?_⟩
  rcases h2 with h2 | ⟨g, cap, cur, rfl, hg, hh, hr⟩
  · exact .inl h2
  · exact .inr ⟨g, cap, cur, rfl, hg, by rw [Below.heap_setCell w p u g (fun e => hne (by simp [Value.ownBlock, e]))]; exact hh, hr⟩

theorem add_mem {w1 w2 : World} {base M B n g cap cv : Nat} {pv : Option Addr} {D : DataW Unit} {ins a b : Int} {ps : List (Int × Int)} {o : Obj} (hn : ps.length = n) (hbs : base ≤ w1.heap.size)
    (hmk : Mk w1 base M B (.slice pv n cv) ins ps) (hown : w1.ownsMap Tryz.prog 75 (plainElem Tryz.prog 3) B n D) (hg : (w1.alloc o).drew.grownBy w2 (Value.ownBlock (.slice pv n cv)))
    (hrow : w2.ownsRow base 75 2 (.slice (some ⟨g, 0, none⟩) (n + 1) cap) (n + 1) (flat ps ++ [.int .i64 a, .int .i64 b])) (hat : Value.ownBlock (.slice pv n cv) = some g ∨ g = w1.heap.size + 1) :
    Mk (w2.setCell ⟨M, 1, none⟩ (.slice (some ⟨g, 0, none⟩) (n + 1) cap)) base M B (.slice (some ⟨g, 0, none⟩) (n + 1) cap) ins (ps ++ [(a, b)]) ∧
    (w2.setCell ⟨M, 1, none⟩ (.slice (some ⟨g, 0, none⟩) (n + 1) cap)).ownsMap Tryz.prog 75 (plainElem Tryz.prog 3) B n D ∧
    (∀ w0, Below base w0 w1 → Below base w0 (w2.setCell ⟨M, 1, none⟩ (.slice (some ⟨g, 0, none⟩) (n + 1) cap))) ∧
    (∀ (q : Addr) x, w1.cell? q = some x → q.block ≠ M → some q.block ≠ Value.ownBlock (.slice pv n cv) → (w2.setCell ⟨M, 1, none⟩ (.slice (some ⟨g, 0, none⟩) (n + 1) cap)).cell? q = some x) := by
  have hM := World.block_lt_of_cell? _ _ hmk.c1
  simp only at hM
  have hBl := hown.lt
  have hgM : g ≠ M := by
    rcases hat with h | h
    · intro e; exact hmk.nv (by rw [h, e])
    · omega
  have hgB : g ≠ B := by
    rcases hat with h | h
    · intro e; exact hmk.nb (by rw [h, e])
    · omega
  have k0 := hg.cell (past1 hmk.c0 o) (fun e => hmk.nv e.symm)
  have k1 := hg.cell (past1 hmk.c1 o) (fun e => hmk.nv e.symm)
  have k2 := hg.cell (past1 hmk.c2 o) (fun e => hmk.nv e.symm)
  have kf : w2.frozen? ⟨M, 1, none⟩ = false := by
    rw [grown_frozen hg (past1 hmk.c1 o) (fun e => hmk.nv e.symm)]
    have hb : Below w1.heap.size w1 (w1.alloc o).drew := (bal (Below.refl _ _) o).drew
    rw [hb.frozen hM]
    exact hmk.f1
  subst hn
  refine ⟨⟨?_, ?_, ?_, ?_, ?_, hmk.hM, hmk.hB, hmk.ne, ?_, ?_⟩, ?_, ?_, ?_⟩
  · rw [World.cell?_setCell_other w2 _ _ _ (by simp)]; exact k0
  · exact World.cell?_setCell_same w2 _ _ k1
  · rw [World.cell?_setCell_other w2 _ _ _ (by simp)]; exact k2
  · rw [World.frozen?_setCell]; exact kf
  · rw [flat_snoc, List.length_append]
    exact owns_set hrow (by simpa [Value.ownBlock] using hgM)
  · simpa [Value.ownBlock] using hgM
  · simpa [Value.ownBlock] using hgB
  · exact ((hown.alloc o).drew.kept hg (fun e => hmk.nb e.symm)).setCell hmk.ne.symm _
  · intro w0 hb
    refine Below.setCell ((hb.alloc hbs o).drew.grown hg (by simp; omega) (fun k hk => (hmk.row.lt k hk).1)) hmk.hM _
  · intro q x hq h1 h2
    exact cell_set_far (hg.cell (past1 hq o) h2) h1

set_option maxRecDepth 100000 in
set_option maxHeartbeats 4000000 in
theorem add_any (ins : Int) (ps : List (Int × Int)) (hl : ps.length ≤ 1000000) (h0 : 0 ≤ ins) (h1 : ins ≤ 1000) (a b : Int) (ha : Wf a) (hb : Wf b) (hd : dupN ps ps.length = false)
    (w : World) (base M B : Nat) (v : Value) (D : DataW Unit) (hbs : base ≤ w.heap.size) (hmk : Mk w base M B v ins ps) (hown : w.ownsMap Tryz.prog 75 (plainElem Tryz.prog 3) B ps.length D) (hmap : MapIs ins ps ps.length D) :
    Calls Tryz.prog 186 #[.pointer (some ⟨M, 0, none⟩), arr2 a b] w fun e w' => ∃ v', e = .returned (.tuple #[.int .i64 (addLit ins ps (a, b)), .bool (addOk ps (a, b))]) ∧
      Mk w' base M B v' ins (addPs ps (a, b)) ∧ Below base w w' := by
  have hge := andAt_ge ps ps.length (a, b)
  obtain ⟨c, hlook, hat⟩ := look_ok_int (hown.alloc (.cells #[.int .i64 a, .int .i64 b] 75)) ha hb
  have hal : Below w.heap.size w (w.alloc (.cells #[.int .i64 a, .int .i64 b] 75)) := bal (Below.refl _ _) _
  have HBA : Hid (Below base w (w.alloc (.cells #[.int .i64 a, .int .i64 b] 75))) := hal.mono hbs
  have m2 := past1 hmk.c2 (.cells #[.int .i64 a, .int .i64 b] 75)
  have hh := hmap.has a b ha hb
  rw [hh] at hlook
  have HL := hide (fun h => lit_inj (hat.symm.trans (hmap.lit hd a b ha hb h)))
  by_cases hin : 0 ≤ andAt ps ps.length (a, b)
  · have hin' : decide (0 ≤ andAt ps ps.length (a, b)) = true := by simpa using hin
    rw [hin'] at hlook
    have HE : Hid (addLit ins ps (a, b) = c ∧ addOk ps (a, b) = true ∧ addPs ps (a, b) = ps) := ⟨by unfold addLit; rw [if_pos hin, HL.out hin], by unfold addOk; rw [hin']; rfl, by unfold addPs; rw [if_pos hin]⟩
    have HMK := hide hmk
    clear hin hin' hge HL hh hat hmap hown hmk
    go_enter Tryz.func186, Tryz.ntmps186
    go_wp2
    go_quiet (fail)
    go_wp2
    go_ret2
    exact ⟨v, by rw [HE.out.1, HE.out.2.1]; rfl, by rw [HE.out.2.2]; exact HMK.out.below (bdn hal _), bdn HBA.out _⟩
  · have hin' : decide (0 ≤ andAt ps ps.length (a, b)) = false := by simpa using hin
    rw [hin'] at hlook
    obtain ⟨pv, cv, rfl, _⟩ := owns_pairs hmk.row
    have m1 := past1 hmk.c1 (.cells #[.int .i64 a, .int .i64 b] 75)
    by_cases hf : 1000000 ≤ ps.length
    · have HE : Hid (addLit ins ps (a, b) = 0 ∧ addOk ps (a, b) = false ∧ addPs ps (a, b) = ps) := ⟨by unfold addLit; rw [if_neg hin, if_pos hf], by unfold addOk; rw [hin']; simp; omega, by unfold addPs; rw [if_neg hin, if_pos hf]⟩
      have HMK := hide hmk
      have hf' : (1000000 : Int) ≤ (ps.length : Int) := by omega
      clear hin hin' hge HL hh hat hmap hown hmk
      go_enter Tryz.func186, Tryz.ntmps186
      go_wp2
      go_quiet (fail)
      go_wp2
      go_ret2
      exact ⟨_, by rw [HE.out.1, HE.out.2.1]; rfl, by rw [HE.out.2.2]; exact HMK.out.below (bdn hal _), bdn HBA.out _⟩
    · have HE : Hid (addLit ins ps (a, b) = 2 * (1 + ins + ps.length) ∧ addOk ps (a, b) = true ∧ addPs ps (a, b) = ps ++ [(a, b)]) := ⟨by unfold addLit; rw [if_neg hin, if_neg hf], by unfold addOk; rw [hin']; simp; omega, by unfold addPs; rw [if_neg hin, if_neg hf]⟩
      have HMK := hide hmk
      have m0 := past1 hmk.c0 (.cells #[.int .i64 a, .int .i64 b] 75)
      have HF : Hid (ps.length < 1000000) := by have := hf; unfold Hid; omega
      have hfd : decide ((1000000 : Int) ≤ (ps.length : Int)) = false := by simp; omega
      have HON := hide hown
      have HMP := hide hmap
      clear hin hin' hge HL hh hat hmap hown hmk hf hl
      go_enter Tryz.func186, Tryz.ntmps186
      go_wp2
      go_quiet (fail)
      go_wp2_with fail
      refine (nodes_any ins pv ps.length cv h0 h1 (by have := HF.out; omega) _).mono ?_
      rintro e w1 ⟨rfl, hb1⟩
      have hbA := bthen (bdn hal nq) hb1
      have hmk1 := HMK.out.below hbA
      have HON1 := hide (map_below HON.out hbA)
      have e0 := cell_later hb1 (a := ⟨w.heap.size, 0, none⟩) (v := .int .i64 a) (by simp [go_sem])
      have e1 := cell_later hb1 (a := ⟨w.heap.size, 1, none⟩) (v := .int .i64 b) (by simp [go_sem])
      have HB1 := hide (hbA.mono hbs)
      have hlt1 := hbA.size
      have hlt0 := World.block_lt_of_cell? _ _ hmk1.c1
      simp only at hlt0
      obtain ⟨i0, hi, hz0, hz1, hz2⟩ := info_parts info55
      have HNW : Hid (∀ j u, ([.int .i64 a, .int .i64 b] : List Value)[j]? = some u → (w1.alloc (.cells #[.int .i64 a, .int .i64 b] 75)).drew.cell? ((⟨w1.heap.size, 0, none⟩ : Addr).add j) = some u) := fun j u hj => by
        match j, hj with
        | 0, hj => simp at hj; subst hj; simp [go_sem, Addr.add]
        | 1, hj => simp at hj; subst hj; simp [go_sem, Addr.add]
      have HOC : Hid (∀ u ∈ ([.int .i64 a, .int .i64 b] : List Value), u.oneCell' = true) := fun u hu => by simp at hu; rcases hu with rfl | rfl <;> rfl
      have HMK1 := hide hmk1
      have HNE : Hid (w.heap.size ≠ M ∧ some w.heap.size ≠ Value.ownBlock (.slice pv ps.length cv)) := ⟨fun e => by have := World.block_lt_of_cell? _ _ HMK.out.c1; simp only at this; omega, fun e => by have := (HMK.out.row.lt _ e.symm).2; omega⟩
      have HNE2 : Hid (w.heap.size ≠ B) := fun e => by have := HON.out.lt; omega
      have HIN := hide (And.intro hi (And.intro hz0 (And.intro hz1 hz2)))
      have m0' := hmk1.c0
      have m1' := hmk1.c1
      have m2' := hmk1.c2
      have f1' := hmk1.f1
      clear HMK HON hb1 hbA m0 m1 m2 hi hz0 hz1 hz2 hmk1 hlook
      go_wp2_with (first | (go_at_call 67; refine (literal_any _ (by omega) (by have := HF.out; omega) _).mono ?_; rintro e w' ⟨rfl, rfl⟩) | fail)
      go_region_law (refine step_append_lies _ rfl (.tmp 38) (.tmp 40) 22 rfl base 75 i0 (.agg #[.int .i64 0, .int .i64 0]) 2 16 Tryz.underlying22 HIN.out.1 HIN.out.2.1 HIN.out.2.2.1 HIN.out.2.2.2 rfl (by decide) _ ps.length (flat ps) (by simp [Act.eval]) (HMK1.out.row.alloc _).drew ⟨w'.heap.size, 0, none⟩ 1 1 [.int .i64 a, .int .i64 b] (by simp [Act.eval]) rfl HNW.out HOC.out (by decide) (by have := HF.out; unfold maxLen; omega) (by have := HF.out; omega) (by simp; omega) (w'.heap.size + 1) (by simp) ?_; intro g cap w2 hown2 hg2 hat2 hlt2; have g1 := hg2.cell (a := ⟨M, 1, none⟩) (past1 m1' _) (fun e => HMK1.out.nv e.symm); have f2 : w2.frozen? ⟨M, 1, none⟩ = false := (grown_frozen hg2 (past1 m1' _) (fun e => HMK1.out.nv e.symm)).trans (((bal (Below.refl _ _) _).drew.frozen hlt0).trans f1'))
      all_goals
        obtain ⟨hmk3, hown3, hbel3, hcell3⟩ := add_mem (a := a) (b := b) rfl (Nat.le_trans hbs hlt1) HMK1.out HON1.out hg2 hown2 hat2
        have HMK3 := hide hmk3
        have HB3 := hide (hbel3 _ HB1.out)
        have x0 := hcell3 _ _ e0 (by simpa using HNE.out.1) HNE.out.2
        have x1 := hcell3 _ _ e1 (by simpa using HNE.out.1) HNE.out.2
        have x2 := hmk3.c2
        clear g1 f2 hown2 hg2 hat2 hlt2 hbel3 hcell3 m0' m1' m2' f1' HNW HOC HIN e0 e1 HON1 HB1
        rename_i hjunk
        generalize w2.setCell ⟨M, 1, none⟩ (.slice (some ⟨g, 0, none⟩) (ps.length + 1) cap) = w3 at *
        obtain ⟨w4, hrun, hown4, hg4⟩ := hown3.drew.update law55 Tryz.underlying113 (by have := HF.out; unfold maxLen; omega) (key55 ha hb) (plainElem_int Tryz.underlying3 (WalkArith.wf_i64 (by have := HF.out; omega) : (Lit.int .i64 (2 * (1 + ins + ps.length))).wf = true))
        have HMK4 := hide ((hmk3.below (Below.refl _ _).drew).grown hg4)
        have hlt3 := hown3.lt
        have HB4 : Hid (Below base w w4) := HB3.out.drew.grown hg4 (Nat.le_trans hmk3.hB (Nat.le_of_lt hlt3)) (fun j hj => by cases hj; exact hmk3.hB)
        have y0 := hg4.cell x0 (by simpa using HNE2.out)
        have y1 := hg4.cell x1 (by simpa using HNE2.out)
        have y2 := HMK4.out.c2
        clear hown3 hmk3 hg4 hown4
        go_wp2
        go_region_held3 (fun w' => w'.cell? ⟨M, 2, none⟩ = some (.map (some B)) ∧ w'.cell? ⟨w.heap.size, 0, none⟩ = some (.int .i64 a) ∧ w'.cell? ⟨w.heap.size, 1, none⟩ = some (.int .i64 b))
          (first | exact ⟨y2, y0, y1⟩ | go_keep)
          (fail)
        all_goals
          go_wp2
          go_ret2
          exact ⟨_, by rw [HE.out.1, HE.out.2.1]; rfl, by rw [HE.out.2.2]; exact HMK4.out, HB4.out⟩

end Go.Proofs.YtjhkecnnhddhbaaGreatDoor
