/- A queue in memory: Swap. -/
import Derived.Test.YtjhkecnnhddhbaaGreatDoorJa
import Derived.Test.YtjhkecnnhddhbaaGreatDoorPi
namespace Go.Proofs.YtjhkecnnhddhbaaGreatDoor.Sr
open Go.RowKit Go.Maps Go.Proofs.YtjhkecnnhddhbaaGreatDoor.Pf
set_option maxRecDepth 100000
set_option autoImplicit false

section
variable {w : World} {X : Nat → Prop} {q gp gw : Nat} {vh : Value} {Q : Qu}
theorem map_set (l : List Int) (i : Nat) (x : Int) : ((l.map (Value.int .i64)).toArray).setIfInBounds i (.int .i64 x) = ((l.set i x).map (Value.int .i64)).toArray := by
  rw [List.setIfInBounds_toArray, List.map_set]
theorem Qm.qp (h : Qm w X q gp gw vh Q) : q ≠ gp := by
  rintro rfl
  have h1 := h.pl
  rw [h.bk] at h1
  injection h1 with h1
  injection h1 with _ h2
  exact absurd h2 (by decide)
theorem Qm.qw (h : Qm w X q gp gw vh Q) : q ≠ gw := by
  rintro rfl
  have h1 := h.wt
  rw [h.bk] at h1
  injection h1 with h1
  injection h1 with _ h2
  exact absurd h2 (by decide)
theorem Qm.qh (h : Qm w X q gp gw vh Q) {g : Nat} (hg : vh.ownBlock = some g) : q ≠ g := by
  rintro rfl
  rcases h.hp.2 with ⟨rfl, _⟩ | ⟨g, cap, cur, rfl, _, h2, _⟩
  · cases hg
  · cases hg
    rw [h.bk] at h2
    cases h2
theorem Qm.setP (h : Qm w X q gp gw vh Q) (a : Nat) (x : Int) : Qm (w.setCell ⟨gp, a, none⟩ (.int .i64 x)) X q gp gw vh { Q with pl := Q.pl.set a x } := by
  have hb : ∀ g, g ≠ gp → (w.setCell ⟨gp, a, none⟩ (.int .i64 x)).heap[g]? = w.heap[g]? := fun g hg => heap_setCell_other _ _ _ _ (by simpa using hg)
  refine ⟨?_, row_same h.hp fun g hg => hb g fun e => h.np (e ▸ hg), ?_, (hb gw h.ne.symm).trans h.wt, h.ne, h.np, h.nw, h.xq, h.xp, h.xw, h.xh, fun g hg => by simpa using h.xb g hg⟩
  · rw [hb q h.qp, h.bk]
    simp
  · rw [heap_setCell_same _ _ _ _ _ _ h.pl, map_set]
theorem Qm.setW (h : Qm w X q gp gw vh Q) (a : Nat) (x : Int) : Qm (w.setCell ⟨gw, a, none⟩ (.int .i64 x)) X q gp gw vh { Q with wt := Q.wt.set a x } := by
  have hb : ∀ g, g ≠ gw → (w.setCell ⟨gw, a, none⟩ (.int .i64 x)).heap[g]? = w.heap[g]? := fun g hg => heap_setCell_other _ _ _ _ (by simpa using hg)
  refine ⟨?_, row_same h.hp fun g hg => hb g fun e => h.nw (e ▸ hg), (hb gp h.ne).trans h.pl, ?_, h.ne, h.np, h.nw, h.xq, h.xp, h.xw, h.xh, fun g hg => by simpa using h.xb g hg⟩
  · rw [hb q h.qw, h.bk]
    simp
  · rw [heap_setCell_same _ _ _ _ _ _ h.wt, map_set]
theorem Qm.setH {g n cap : Nat} (h : Qm w X q gp gw (.slice (some ⟨g, 0, none⟩) n cap) Q) (i : Nat) (x : Int) : Qm (w.setCell ⟨g, i, none⟩ (.int .i64 x)) X q gp gw (.slice (some ⟨g, 0, none⟩) n cap) { Q with hp := Q.hp.set i x } := by
  have hb : ∀ k, k ≠ g → (w.setCell ⟨g, i, none⟩ (.int .i64 x)).heap[k]? = w.heap[k]? := fun k hk => heap_setCell_other _ _ _ _ (by simpa using hk)
  refine ⟨(hb q (h.qh rfl)).trans h.bk, ?_, (hb gp fun e => h.np (e ▸ rfl)).trans h.pl, (hb gw fun e => h.nw (e ▸ rfl)).trans h.wt, h.ne, h.np, h.nw, h.xq, h.xp, h.xw, h.xh, fun g hg => by simpa using h.xb g hg⟩
  refine ⟨by simp, ?_⟩
  rcases h.hp.2 with ⟨e, _⟩ | ⟨g', cap', cur, e, h0, hg, hn, hm, hs, ht⟩
  · cases e
  · injection e with e1 e2 e3
    injection e1 with e1
    injection e1 with e1
    subst e1 e3
    refine .inr ⟨g, cap, cur.setIfInBounds i (.int .i64 x), by simp [e2], h0, heap_setCell_same _ _ _ _ _ _ hg, by simpa using hn, hm, by simpa using hs, ?_⟩
    rw [Array.toList_setIfInBounds, List.length_set, List.take_set, ht, List.map_set]
end
section
variable {w : World} {X : Nat → Prop} {q gp gw : Nat} {vh : Value} {Q : Qu}
theorem Qm.drew (h : Qm w X q gp gw vh Q) : Qm w.drew X q gp gw vh Q := h.later (Below.refl _ _).drew
end
set_option maxHeartbeats 4000000 in
theorem swap_any (w : World) (X : Nat → Prop) (q gp gw : Nat) (vh : Value) (Q : Qu) (h : Qm w X q gp gw vh Q) (n : Nat) (ok : QOk n Q) (i j : Nat) (hi : i < Q.hp.length) (hj : j < Q.hp.length) :
    Calls Tryz.prog 353 #[.pointer (some ⟨q, 0, none⟩), .int .i64 i, .int .i64 j] w fun e w' => e = .returned (.tuple #[]) ∧ Qm w' X q gp gw vh (Q.swap i j) ∧ Fr X w w' X := by
  have c0 := h.c0
  have c1 := h.c1
  obtain ⟨g, cap, rfl, hr⟩ := h.row hi
  have hqg : q ≠ g := h.qh rfl
  have hqp : q ≠ gp := h.qp
  have hgp : g ≠ gp := fun e => h.np (e ▸ rfl)
  obtain ⟨ri, fi⟩ := hr i hi
  obtain ⟨rj, fj⟩ := hr j hj
  have ai := ok.hp _ (Qu.at_mem hi)
  have aj := ok.hp _ (Qu.at_mem hj)
  obtain ⟨a, ha⟩ : ∃ a : Nat, Q.at i = a := ⟨(Q.at i).toNat, by omega⟩
  obtain ⟨b, hb⟩ : ∃ b : Nat, Q.at j = b := ⟨(Q.at j).toNat, by omega⟩
  obtain ⟨pa, fa⟩ := map_cell h.pl (k := a) (by rw [ok.pl]; omega)
  obtain ⟨pb, fb⟩ := map_cell h.pl (k := b) (by rw [ok.pl]; omega)
  have HSW : Hid (Q.swap i j = { Q with hp := (Q.hp.set i b).set j a, pl := (Q.pl.set a j).set b i }) := by
    unfold Hid Qu.swap
    rw [ha, hb]
    simp only [Int.toNat_natCast]
  have HQ := hide h
  have HX := hide (h.xh g rfl)
  have HI := hide hi
  have HJ := hide hj
  rw [ha] at ri ai
  rw [hb] at rj aj
  generalize Q.swap i j = Q' at *
  generalize Q.pl.getD a 0 = ya at *
  generalize Q.pl.getD b 0 = yb at *
  have e1 : (0 : Int) ≤ (i : Int) := by omega
  have e2 : (i : Int) < (Q.hp.length : Int) := by omega
  have e3 : (0 : Int) ≤ (j : Int) := by omega
  have e4 : (j : Int) < (Q.hp.length : Int) := by omega
  have e5 : (a : Int) < (Q.pl.length : Int) := by rw [ok.pl]; exact ai.2
  have e6 : (b : Int) < (Q.pl.length : Int) := by rw [ok.pl]; exact aj.2
  have e7 : (0 : Int) ≤ (a : Int) := by omega
  have e8 : (0 : Int) ≤ (b : Int) := by omega
  clear h hr ok hi hj ai aj ha hb
  go_enter Tryz.func353, Tryz.ntmps353
  go_wp2
  go_region_held3 (fun w' => w'.cell? ⟨q, 0, none⟩ = some (.slice (some ⟨g, 0, none⟩) Q.hp.length cap) ∧ w'.cell? ⟨g, i, none⟩ = some (.int .i64 a) ∧ w'.cell? ⟨g, j, none⟩ = some (.int .i64 b)) (first | exact ⟨c0, ri, rj⟩ | go_keep) (fail)
  have hs2 : (w.setCell ⟨g, i, none⟩ (.int .i64 b)).cell? ⟨g, j, none⟩ = some (.int .i64 b) := by
    by_cases hij : i = j
    · subst hij
      exact World.cell?_setCell_same _ _ _ ri
    · rw [World.cell?_setCell_other _ _ _ _ (by simp)]
      exact rj
  go_wp2
  go_region_held3 (fun w' => w'.cell? ⟨q, 0, none⟩ = some (.slice (some ⟨g, 0, none⟩) Q.hp.length cap)) (first | exact c0 | exact cell_set_far c0 hqg | exact cell_set_far (cell_set_far c0 hqg) hqg | go_keep) (fail)
  have HQ2 := hide ((HQ.out.setH i b).setH j a).drew.drew
  have HF2 : Hid (Fr X w ((w.setCell ⟨g, i, none⟩ (.int .i64 b)).setCell ⟨g, j, none⟩ (.int .i64 a)).drew.drew X) := ((Fr.set (q := ⟨g, i, none⟩) HX.out _).trans (Fr.set (q := ⟨g, j, none⟩) HX.out _)).trans (Fr.quiet (Below.refl _ _).drew.drew)
  generalize ((w.setCell ⟨g, i, none⟩ (.int .i64 b)).setCell ⟨g, j, none⟩ (.int .i64 a)).drew.drew = w2 at *
  clear c0 c1 ri rj fi fj pa pb fa fb hs2
  have c1 := HQ2.out.c1
  simp only at c1
  obtain ⟨pa, fa⟩ := map_cell HQ2.out.pl (k := a) (by simp; omega)
  obtain ⟨pb, fb⟩ := map_cell HQ2.out.pl (k := b) (by simp; omega)
  simp only at pa pb
  generalize Q.pl.getD a 0 = ya at *
  have hs2 : ∃ y, (w2.setCell ⟨gp, a, none⟩ (.int .i64 j)).cell? ⟨gp, b, none⟩ = some (.int .i64 y) := by
    by_cases hab : a = b
    · subst hab
      exact ⟨j, World.cell?_setCell_same _ _ _ pa⟩
    · exact ⟨_, (World.cell?_setCell_other _ _ _ _ (by simp)).trans pb⟩
  obtain ⟨y2, hs2⟩ := hs2
  have HQ3 := hide ((HQ2.out.setP a j).setP b i).drew
  have HF3 : Hid (Fr X w ((w2.setCell ⟨gp, a, none⟩ (.int .i64 j)).setCell ⟨gp, b, none⟩ (.int .i64 i)).drew X) := ((HF2.out.trans (Fr.set (q := ⟨gp, a, none⟩) HQ2.out.xp _)).trans (Fr.set (q := ⟨gp, b, none⟩) HQ2.out.xp _)).trans (Fr.quiet (Below.refl _ _).drew)
  go_wp2
  go_region_held3 (fun w' => w'.cell? ⟨q, 1, none⟩ = some (.slice (some ⟨gp, 0, none⟩) Q.pl.length Q.pl.length)) (first | exact c1 | exact cell_set_far c1 hqp | exact cell_set_far (cell_set_far c1 hqp) hqp | go_keep) (fail)
  go_wp2
  go_end0
  exact ⟨rfl, by rw [HSW.out]; exact HQ3.out, HF3.out⟩
end Go.Proofs.YtjhkecnnhddhbaaGreatDoor.Sr
