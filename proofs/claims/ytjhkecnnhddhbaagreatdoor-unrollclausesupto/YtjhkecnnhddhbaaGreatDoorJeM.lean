/- A queue in memory: Swap. -/
import Derived.Test.YtjhkecnnhddhbaaGreatDoorJa
import Derived.Test.YtjhkecnnhddhbaaGreatDoorPiM
import Derived.Lib.AppendZeros
namespace Go.Proofs.YtjhkecnnhddhbaaGreatDoor.Sr
open Go.RowKit Go.Maps Go.Proofs.YtjhkecnnhddhbaaGreatDoor.Pf
set_option maxRecDepth 100000
section
variable {w : World} {X : Nat → Prop} {q gp gw : Nat} {vh : Value} {Q : Qu}
theorem map_set (l : List Int) (i : Nat) (x : Int) : ((l.map (Value.int .i64)).toArray).setIfInBounds i (.int .i64 x) = ((l.set i x).map (Value.int .i64)).toArray := by
 rw [List.setIfInBounds_toArray, List.map_set]
theorem Qm.qp (h : Qm w X q gp gw vh Q) : q ≠ gp := by
 rintro rfl
 have h1 := h.pl
 rw [h.bk] at h1
 injection h1 with h1
 injection h1 with _ h2
 exact absurd h2 (by decide)
theorem Qm.qw (h : Qm w X q gp gw vh Q) : q ≠ gw := by
 rintro rfl
 have h1 := h.wt
 rw [h.bk] at h1
 injection h1 with h1
 injection h1 with _ h2
 exact absurd h2 (by decide)
theorem Qm.qh (h : Qm w X q gp gw vh Q) {g : Nat} (hg : vh.ownBlock = some g) : q ≠ g := by
 rintro rfl
 rcases h.hp.2 with ⟨rfl, _⟩ | ⟨g, cap, cur, rfl, _, h2, _⟩
 · cases hg
 · cases hg
   rw [h.bk] at h2
   cases h2
theorem Qm.setP (h : Qm w X q gp gw vh Q) (a : Nat) (x : Int) : Qm (w.setCell ⟨gp, a, none⟩ (.int .i64 x)) X q gp gw vh { Q with pl := Q.pl.set a x } := by
 have hb : ∀ g, g ≠ gp → (w.setCell ⟨gp, a, none⟩ (.int .i64 x)).heap[g]? = w.heap[g]? := fun g hg => heap_setCell_other _ _ _ _ (by simpa using hg)
 refine ⟨?_, row_same h.hp fun g hg => hb g fun e => h.np (e ▸ hg), ?_, (hb gw h.ne.symm).trans h.wt, h.ne, h.np, h.nw, h.xq, h.xp, h.xw, h.xh, fun g hg => by simpa using h.xb g hg⟩
 · rw [hb q h.qp, h.bk]
   simp
 · rw [heap_setCell_same _ _ _ _ _ _ h.pl, map_set]
theorem Qm.setH {g n cap : Nat} (h : Qm w X q gp gw (.slice (some ⟨g, 0, none⟩) n cap) Q) (i : Nat) (x : Int) : Qm (w.setCell ⟨g, i, none⟩ (.int .i64 x)) X q gp gw (.slice (some ⟨g, 0, none⟩) n cap) { Q with hp := Q.hp.set i x } := by
 have hb : ∀ k, k ≠ g → (w.setCell ⟨g, i, none⟩ (.int .i64 x)).heap[k]? = w.heap[k]? := fun k hk => heap_setCell_other _ _ _ _ (by simpa using hk)
 refine ⟨(hb q (h.qh rfl)).trans h.bk, ?_, (hb gp fun e => h.np (e ▸ rfl)).trans h.pl, (hb gw fun e => h.nw (e ▸ rfl)).trans h.wt, h.ne, h.np, h.nw, h.xq, h.xp, h.xw, h.xh, fun g hg => by simpa using h.xb g hg⟩
 refine ⟨by simp, ?_⟩
 rcases h.hp.2 with ⟨e, _⟩ | ⟨g', cap', cur, e, h0, hg, hn, hm, hs, ht⟩
 · cases e
 · injection e with e1 e2 e3
   injection e1 with e1
   injection e1 with e1
   subst e1 e3
   refine .inr ⟨g, cap, cur.setIfInBounds i (.int .i64 x), by simp [e2], h0, heap_setCell_same _ _ _ _ _ _ hg, by simpa using hn, hm, by simpa using hs, ?_⟩
   rw [Array.toList_setIfInBounds, List.length_set, List.take_set, ht, List.map_set]
end
section
variable {w : World} {X : Nat → Prop} {q gp gw : Nat} {vh : Value} {Q : Qu}
theorem Qm.drew (h : Qm w X q gp gw vh Q) : Qm w.drew X q gp gw vh Q := h.later (Below.refl _ _).drew
end
set_option maxHeartbeats 4000000 in
theorem swap_any (w : World) (X : Nat → Prop) (q gp gw : Nat) (vh : Value) (Q : Qu) (h : Qm w X q gp gw vh Q) (n : Nat) (ok : QOk n Q) (i j : Nat) (hi : i < Q.hp.length) (hj : j < Q.hp.length) :
   Calls Tryz.prog 353 #[.pointer (some ⟨q, 0, none⟩), .int .i64 i, .int .i64 j] w fun e w' => e = .returned (.tuple #[]) ∧ Qm w' X q gp gw vh (Q.swap i j) ∧ Fr X w w' X := by
 have c0 := h.c0
 have c1 := h.c1
 obtain ⟨g, cap, rfl, hr⟩ := h.row hi
 have hqg : q ≠ g := h.qh rfl
 have hqp : q ≠ gp := h.qp
 have hgp : g ≠ gp := fun e => h.np (e ▸ rfl)
 obtain ⟨ri, fi⟩ := hr i hi
 obtain ⟨rj, fj⟩ := hr j hj
 have ai := ok.hp _ (Qu.at_mem hi)
 have aj := ok.hp _ (Qu.at_mem hj)
 obtain ⟨a, ha⟩ : ∃ a : Nat, Q.at i = a := ⟨(Q.at i).toNat, by omega⟩
 obtain ⟨b, hb⟩ : ∃ b : Nat, Q.at j = b := ⟨(Q.at j).toNat, by omega⟩
 obtain ⟨pa, fa⟩ := map_cell h.pl (k := a) (by rw [ok.pl]; omega)
 obtain ⟨pb, fb⟩ := map_cell h.pl (k := b) (by rw [ok.pl]; omega)
 have HSW : Hid (Q.swap i j = { Q with hp := (Q.hp.set i b).set j a, pl := (Q.pl.set a j).set b i }) := by
   unfold Hid Qu.swap
   rw [ha, hb]
   simp only [Int.toNat_natCast]
 have HQ := hide h
 have HX := hide (h.xh g rfl)
 have HI := hide hi
 have HJ := hide hj
 rw [ha] at ri ai
 rw [hb] at rj aj
 generalize Q.swap i j = Q' at *
 generalize Q.pl.getD a 0 = ya at *
 generalize Q.pl.getD b 0 = yb at *
 have e1 : (0 : Int) ≤ (i : Int) := by omega
 have e2 : (i : Int) < (Q.hp.length : Int) := by omega
 have e3 : (0 : Int) ≤ (j : Int) := by omega
 have e4 : (j : Int) < (Q.hp.length : Int) := by omega
 have e5 : (a : Int) < (Q.pl.length : Int) := by rw [ok.pl]; exact ai.2
 have e6 : (b : Int) < (Q.pl.length : Int) := by rw [ok.pl]; exact aj.2
 have e7 : (0 : Int) ≤ (a : Int) := by omega
 have e8 : (0 : Int) ≤ (b : Int) := by omega
 clear h hr ok hi hj ai aj ha hb
 go_enter Tryz.func353, Tryz.ntmps353
 go_wp2
 go_region_held3 (fun w' => w'.cell? ⟨q, 0, none⟩ = some (.slice (some ⟨g, 0, none⟩) Q.hp.length cap) ∧ w'.cell? ⟨g, i, none⟩ = some (.int .i64 a) ∧ w'.cell? ⟨g, j, none⟩ = some (.int .i64 b)) (first | exact ⟨c0, ri, rj⟩ | go_keep) (fail)
 have hs2 : (w.setCell ⟨g, i, none⟩ (.int .i64 b)).cell? ⟨g, j, none⟩ = some (.int .i64 b) := by
   by_cases hij : i = j
   · subst hij
     exact World.cell?_setCell_same _ _ _ ri
   · rw [World.cell?_setCell_other _ _ _ _ (by simp)]
     exact rj
 go_wp2
 go_region_held3 (fun w' => w'.cell? ⟨q, 0, none⟩ = some (.slice (some ⟨g, 0, none⟩) Q.hp.length cap)) (first | exact c0 | exact cell_set_far c0 hqg | exact cell_set_far (cell_set_far c0 hqg) hqg | go_keep) (fail)
 have HQ2 := hide ((HQ.out.setH i b).setH j a).drew.drew
 have HF2 : Hid (Fr X w ((w.setCell ⟨g, i, none⟩ (.int .i64 b)).setCell ⟨g, j, none⟩ (.int .i64 a)).drew.drew X) := ((Fr.set (q := ⟨g, i, none⟩) HX.out _).trans (Fr.set (q := ⟨g, j, none⟩) HX.out _)).trans (Fr.quiet (Below.refl _ _).drew.drew)
 generalize ((w.setCell ⟨g, i, none⟩ (.int .i64 b)).setCell ⟨g, j, none⟩ (.int .i64 a)).drew.drew = w2 at *
 clear c0 c1 ri rj fi fj pa pb fa fb hs2
 have c1 := HQ2.out.c1
 simp only at c1
 obtain ⟨pa, fa⟩ := map_cell HQ2.out.pl (k := a) (by simp; omega)
 obtain ⟨pb, fb⟩ := map_cell HQ2.out.pl (k := b) (by simp; omega)
 simp only at pa pb
 generalize Q.pl.getD a 0 = ya at *
 have hs2 : ∃ y, (w2.setCell ⟨gp, a, none⟩ (.int .i64 j)).cell? ⟨gp, b, none⟩ = some (.int .i64 y) := by
   by_cases hab : a = b
   · subst hab
     exact ⟨j, World.cell?_setCell_same _ _ _ pa⟩
   · exact ⟨_, (World.cell?_setCell_other _ _ _ _ (by simp)).trans pb⟩
 obtain ⟨y2, hs2⟩ := hs2
 have HQ3 := hide ((HQ2.out.setP a j).setP b i).drew
 have HF3 : Hid (Fr X w ((w2.setCell ⟨gp, a, none⟩ (.int .i64 j)).setCell ⟨gp, b, none⟩ (.int .i64 i)).drew X) := ((HF2.out.trans (Fr.set (q := ⟨gp, a, none⟩) HQ2.out.xp _)).trans (Fr.set (q := ⟨gp, b, none⟩) HQ2.out.xp _)).trans (Fr.quiet (Below.refl _ _).drew)
 go_wp2
 go_region_held3 (fun w' => w'.cell? ⟨q, 1, none⟩ = some (.slice (some ⟨gp, 0, none⟩) Q.pl.length Q.pl.length)) (first | exact c1 | exact cell_set_far c1 hqp | exact cell_set_far (cell_set_far c1 hqp) hqp | go_keep) (fail)
 go_wp2
 go_end0
 exact ⟨rfl, by rw [HSW.out]; exact HQ3.out, HF3.out⟩
end Go.Proofs.YtjhkecnnhddhbaaGreatDoor.Sr

namespace Go.Proofs.YtjhkecnnhddhbaaGreatDoor.Sr
open Go.RowKit Go.Maps Go.Proofs.YtjhkecnnhddhbaaGreatDoor.Pf
set_option maxRecDepth 100000
def Qu.push (Q : Qu) (v : Int) : Qu := { Q with hp := Q.hp ++ [v], pl := Q.pl.set v.toNat Q.hp.length }
theorem QOk.push {n : Nat} {Q : Qu} (h : QOk n Q) {v : Int} (h0 : 0 ≤ v) (h1 : v < n) (hl : Q.hp.length < 1000000) : QOk n (Q.push v) :=
 ⟨by simp [Qu.push, h.pl], h.wt, fun x hx => by
   rcases List.mem_append.1 hx with hx | hx
   · exact h.hp x hx
   · simp at hx; subst hx; exact ⟨h0, h1⟩, by simp [Qu.push]; omega, h.n⟩
theorem info3 : (Tryz.prog.info? 3).map (fun i => (i.zero, i.size, i.bytes)) = some (some (.int .i64 0), 1, 8) := by kernel_rfl
theorem one_newI (v : Value) (w : World) (t : TypeId) : ∀ j u, ([v] : List Value)[j]? = some u → (w.alloc (.cells #[v] t)).cell? ((⟨w.heap.size, 0, none⟩ : Addr).add j) = some u := fun j u hj => by
 match j, hj with
 | 0, hj => simp at hj; subst hj; simp [go_sem, Addr.add]
section
variable {w : World} {X : Nat → Prop} {q gp gw : Nat} {vh : Value} {Q : Qu}
theorem Qm.append (h : Qm w X q gp gw vh Q) (v : Int) (hl : Q.hp.length < 1000000) (ty : TypeId) :
   ∃ vh' w', (Builtin.append_ #[25, 25] ty #[vh, .slice (some ⟨w.heap.size, 0, none⟩) 1 1]).run Tryz.prog (w.alloc (.cells #[.int .i64 v] 3)) = .ok vh' w' ∧ (∃ p c, vh' = .slice p (Q.hp.length + 1) c) ∧ w'.heap[q]? = w.heap[q]? ∧ ∃ X', Qm (w'.setCell ⟨q, 0, none⟩ vh') X' q gp gw vh' { Q with hp := Q.hp ++ [v] } ∧ Fr X w (w'.setCell ⟨q, 0, none⟩ vh') X' := by
 obtain ⟨i0, hi, hz0, hz1, hz2⟩ := info_parts info3
 have hal : Below w.heap.size w (w.alloc (.cells #[.int .i64 v] 3)) := bal (Below.refl _ _) _
 have hown := h.hp.alloc (.cells #[.int .i64 v] 3)
 obtain ⟨vh', w', hr, ho, hg, _⟩ := run_append_own (P := Tryz.prog) (w := w.alloc (.cells #[.int .i64 v] 3)) 0 25 ty 3 i0 (.int .i64 0) 1 8 Tryz.underlying25 hi hz0 hz1 hz2 rfl (by decide) vh Q.hp.length _ hown ⟨w.heap.size, 0, none⟩ 1 1 [.int .i64 v] rfl (one_newI _ w 3) (fun u hu => by simp at hu; subst hu; rfl) (by unfold maxLen; omega) (by omega) (Nat.zero_le _)
 have hsz := hg.size
 rw [World.size_alloc] at hsz
 have hold : ∀ k, k < w.heap.size → vh.ownBlock ≠ some k → w'.heap[k]? = w.heap[k]? := fun k hk hne => (hg.block k (by rw [World.size_alloc]; omega) (fun e => hne e.symm)).trans (hal.block k hk)
 have hq : w'.heap[q]? = w.heap[q]? := hold q (h.xb q h.xq) fun e => h.qh e rfl
 have hnew : ∀ k, vh'.ownBlock = some k → vh.ownBlock = some k ∨ w.heap.size < k := by
   intro k hk
   rcases hown.2 with ⟨rfl, h0⟩ | ⟨g, cap, cur, rfl, _, hg', hn, hm, hs, ht⟩
   · have h2 := run_append_nil (P := Tryz.prog) (w.alloc (.cells #[.int .i64 v] 3)) 25 ty 3 i0 (.int .i64 0) Tryz.underlying25 hi hz0 ⟨w.heap.size, 0, none⟩ 1 1 [.int .i64 v] (by rw [hz1]; rfl) (one_newI _ w 3) (by decide) (by decide) (by rw [hz2]; decide)
     rw [hr] at h2
     injection h2 with h2
     subst h2
     simp [Value.ownBlock] at hk
     exact .inr (by omega)
   · by_cases hroom : Q.hp.length + 1 ≤ cap
     · have h2 := run_append_room (P := Tryz.prog) (w.alloc (.cells #[.int .i64 v] 3)) 25 ty 3 i0 Tryz.underlying25 hi g Q.hp.length cap cur hg' ⟨w.heap.size, 0, none⟩ 1 1 [.int .i64 v] (by rw [hz1]; rfl) (one_newI _ w 3) (fun u hu => by simp at hu; subst hu; rfl) hroom (by rw [hz1, hs]; simp; omega)
       rw [hr] at h2
       injection h2 with h2
       subst h2
       exact .inl hk
     · have h2 := run_append_grow (P := Tryz.prog) (w.alloc (.cells #[.int .i64 v] 3)) 25 ty 3 i0 (.int .i64 0) Tryz.underlying25 hi hz0 ⟨g, 0, none⟩ Q.hp.length cap (Q.hp.map (Value.int .i64)) (by rw [hz1]; simp) (hown.cells (g := g) rfl) ⟨w.heap.size, 0, none⟩ 1 1 [.int .i64 v] (by rw [hz1]; rfl) (one_newI _ w 3) (by omega) (by omega) (growslice_fits (by omega) (by rw [hz2]; omega))
       rw [hr] at h2
       injection h2 with h2
       subst h2
       simp [Value.ownBlock] at hk
       exact .inr (by omega)
 have hbk : w'.heap[q]? = some (.cells #[vh, .slice (some ⟨gp, 0, none⟩) Q.pl.length Q.pl.length, .slice (some ⟨gw, 0, none⟩) Q.wt.length Q.wt.length, .int .i64 Q.gain] 217 (0, 0)) := hq.trans h.bk
 have hset : ∀ k, k ≠ q → (w'.setCell ⟨q, 0, none⟩ vh').heap[k]? = w'.heap[k]? := fun k hk => heap_setCell_other _ _ _ _ (by simpa using hk)
 have hnp : vh'.ownBlock ≠ some gp := fun e => by
   rcases hnew gp e with e | e
   · exact h.np e
   · have := h.xb gp h.xp; omega
 have hnw : vh'.ownBlock ≠ some gw := fun e => by
   rcases hnew gw e with e | e
   · exact h.nw e
   · have := h.xb gw h.xw; omega
 have hnq : vh'.ownBlock ≠ some q := fun e => by
   rcases hnew q e with e | e
   · exact h.qh e rfl
   · have := h.xb q h.xq; omega
 have ho' : w'.ownsRow 0 3 1 vh' (Q.hp ++ [v]).length ((Q.hp ++ [v]).map (Value.int .i64)) := by simpa using ho
 refine ⟨vh', w', hr, ?_, hq, fun k => X k ∨ vh'.ownBlock = some k, ⟨?_, row_same ho' fun g hg => hset g fun e => hnq (e ▸ hg), ?_, ?_, h.ne, hnp, hnw, .inl h.xq, .inl h.xp, .inl h.xw, fun g hg => .inr hg, fun g hg => ?_⟩, ?_⟩
 · rcases ho'.2 with ⟨_, h0⟩ | ⟨g, cap, cur, e, _⟩
   · simp at h0
   · exact ⟨_, cap, by rw [e, List.length_append]; rfl⟩
 · rw [heap_setCell_same _ _ _ _ _ _ hbk]
   rfl
 · exact (hset gp h.qp.symm).trans ((hold gp (h.xb gp h.xp) h.np).trans h.pl)
 · exact (hset gw h.qw.symm).trans ((hold gw (h.xb gw h.xw) h.nw).trans h.wt)
 · have hs2 : (w'.setCell ⟨q, 0, none⟩ vh').heap.size = w'.heap.size := by simp
   rw [hs2]
   rcases hg with hg | hg
   · have := h.xb g hg; omega
   · exact (ho'.lt g hg).2
 · refine ⟨hg.os, hg.tape, hg.output, by simp; omega, fun k hk hx => ?_, fun k hk => .inl hk, fun k hk hx => ?_⟩
   · rw [hset k fun e => hx (e ▸ h.xq)]
     exact hold k hk fun e => hx (h.xh k e)
   · rcases hx with hx | hx
     · exact hx
     · rcases hnew k hx with e | e
       · exact h.xh k e
       · omega
end
theorem asserts (v : Value) (w : World) : (Instr.typeAssert (.iface 3 v) 20 3 true).run Tryz.prog w = .ok (.tuple #[v, .bool true]) w := by kernel_rfl
set_option maxHeartbeats 4000000 in
theorem push_any (w : World) (X : Nat → Prop) (q gp gw : Nat) (vh : Value) (Q : Qu) (h : Qm w X q gp gw vh Q) (n : Nat) (ok : QOk n Q) (v : Nat) (hv : v < n) (hl : Q.hp.length < 1000000) :
   Calls Tryz.prog 193 #[.pointer (some ⟨q, 0, none⟩), .iface 3 (.int .i64 v)] w fun e w' => e = .returned (.tuple #[]) ∧ ∃ X' vh', Qm w' X' q gp gw vh' (Q.push v) ∧ Fr X w w' X' := by
 have c0 := h.c0
 have c1 := h.c1
 obtain ⟨p, c, rfl⟩ := h.sl
 have hqp : q ≠ gp := h.qp
 obtain ⟨pa, fa⟩ := map_cell h.pl (k := v) (by rw [ok.pl]; exact hv)
 generalize Q.pl.getD v 0 = ya at *
 have e5 : (v : Int) < (Q.pl.length : Int) := by rw [ok.pl]; omega
 have e7 : (0 : Int) ≤ (v : Int) := by omega
 have HQ := hide h
 have has := asserts (.int .i64 v)
 clear h
 go_enter Tryz.func193, Tryz.ntmps193
 go_wp2_with fail
 go_region_held3 (fun w' => w'.cell? ⟨q, 0, none⟩ = some (.slice p Q.hp.length c) ∧ w'.cell? ⟨q, 1, none⟩ = some (.slice (some ⟨gp, 0, none⟩) Q.pl.length Q.pl.length)) (first | exact ⟨c0, c1⟩ | exact ⟨cell_set_far c0 hqp, cell_set_far c1 hqp⟩ | go_keep) (fail)
 have HQ2 := hide (HQ.out.setP v Q.hp.length).drew
 have HF2 : Hid (Fr X w (w.setCell ⟨gp, v, none⟩ (.int .i64 Q.hp.length)).drew X) := (Fr.set (q := ⟨gp, v, none⟩) HQ.out.xp _).trans (Fr.quiet (Below.refl _ _).drew)
 generalize (w.setCell ⟨gp, v, none⟩ (.int .i64 Q.hp.length)).drew = w2 at *
 clear c0 c1 pa fa has
 obtain ⟨vh', w3, hrun, ⟨p', c', rfl⟩, hq3, X', hQ3, hF3⟩ := HQ2.out.append v hl 25
 have c0 := HQ2.out.c0
 have d0 : w3.cell? ⟨q, 0, none⟩ = some (.slice p Q.hp.length c) := (World.cell?_of_block hq3).trans c0
 have f0 : w3.frozen? ⟨q, 0, none⟩ = false := (World.frozen?_of_block (a := ⟨q, 0, none⟩) hq3).trans (HQ2.out.fz 0)
 have HQ3 := hide hQ3
 have HF3 := hide (HF2.out.trans hF3)
 clear hQ3 hF3 hq3
 go_wp2_with (at_builtin; refine Lib.wpList_append_run _ rfl _ _ _ _ rfl _ _ rfl rfl _ _ hrun ?_)
 go_end0
 exact ⟨rfl, X', ⟨_, HQ3.out⟩, HF3.out⟩
def Qu.pop (Q : Qu) : Qu := { Q with hp := Q.hp.dropLast, pl := Q.pl.set (Q.at (Q.hp.length - 1)).toNat (-1) }
theorem QOk.pop {n : Nat} {Q : Qu} (h : QOk n Q) : QOk n Q.pop :=
 ⟨by simp [Qu.pop, h.pl], h.wt, fun x hx => h.hp x (List.mem_of_mem_take (by rw [← List.dropLast_eq_take]; exact hx)), by have := h.len; simp [Qu.pop]; omega, h.n⟩
section
variable {w : World} {X : Nat → Prop} {q gp gw : Nat} {vh : Value} {Q : Qu}
theorem Qm.cut {g n cap : Nat} (h : Qm w X q gp gw (.slice (some ⟨g, 0, none⟩) n cap) Q) : Qm (w.setCell ⟨q, 0, none⟩ (.slice (some ⟨g, 0, none⟩) (Q.hp.length - 1) cap)) X q gp gw (.slice (some ⟨g, 0, none⟩) (Q.hp.length - 1) cap) { Q with hp := Q.hp.dropLast } := by
 have hset : ∀ k, k ≠ q → (w.setCell ⟨q, 0, none⟩ (.slice (some ⟨g, 0, none⟩) (Q.hp.length - 1) cap)).heap[k]? = w.heap[k]? := fun k hk => heap_setCell_other _ _ _ _ (by simpa using hk)
 refine ⟨?_, ⟨by simp, ?_⟩, (hset gp h.qp.symm).trans h.pl, (hset gw h.qw.symm).trans h.wt, h.ne, h.np, h.nw, h.xq, h.xp, h.xw, h.xh, fun k hk => by simpa using h.xb k hk⟩
 · rw [heap_setCell_same _ _ _ _ _ _ h.bk]
   rfl
 · rcases h.hp.2 with ⟨e, _⟩ | ⟨g', cap', cur, e, h0, hg, hn, hm, hs, ht⟩
   · cases e
   · injection e with e1 e2 e3
     injection e1 with e1
     injection e1 with e1
     subst e1 e3
     refine .inr ⟨g, cap, cur, by simp, h0, (hset g (h.qh rfl).symm).trans hg, by simp; omega, hm, hs, ?_⟩
     have e4 : Q.hp.dropLast.length * 1 = Q.hp.length - 1 := by simp
     rw [e4, List.dropLast_eq_take, List.map_take, ← ht, List.take_take]
     congr 1
     omega
end
set_option maxHeartbeats 4000000 in
theorem pop_any (w : World) (X : Nat → Prop) (q gp gw : Nat) (vh : Value) (Q : Qu) (h : Qm w X q gp gw vh Q) (n : Nat) (ok : QOk n Q) (hl : 0 < Q.hp.length) :
   Calls Tryz.prog 352 #[.pointer (some ⟨q, 0, none⟩)] w fun e w' => e = .returned (.iface 3 (.int .i64 (Q.at (Q.hp.length - 1)))) ∧ (∃ vh', Qm w' X q gp gw vh' Q.pop) ∧ Fr X w w' X := by
 have c0 := h.c0
 obtain ⟨g, cap, rfl, hr⟩ := h.row hl
 have hqp : q ≠ gp := h.qp
 have hqg : q ≠ g := h.qh rfl
 obtain ⟨k, hk⟩ : ∃ k : Nat, Q.hp.length = k + 1 := ⟨Q.hp.length - 1, by omega⟩
 have hk1 : Q.hp.length - 1 = k := by omega
 have ri := (hr k (by omega)).1
 have ai := ok.hp _ (Qu.at_mem (i := k) (by omega))
 obtain ⟨a, ha⟩ : ∃ a : Nat, Q.at k = a := ⟨(Q.at k).toNat, by omega⟩
 have HPO : Hid (Q.pop = { Q with hp := Q.hp.dropLast, pl := Q.pl.set a (-1) }) := by
   unfold Hid Qu.pop
   rw [hk1, ha]
   simp only [Int.toNat_natCast]
 have hcap : k + 1 ≤ cap := by
   rcases h.hp.2 with ⟨e, _⟩ | ⟨g', cap', cur, e, _, _, hn, _⟩
   · cases e
   · injection e with e1 e2 e3
     subst e3
     omega
 have hkm : k ≤ 1000000 := by have := ok.len; omega
 have fz := h.fz 0
 have c1 := h.c1
 obtain ⟨pa, fa⟩ := map_cell h.pl (k := a) (by rw [ok.pl]; omega)
 generalize Q.pl.getD a 0 = ya at *
 have HQ2 := hide (h.cut.setP a (-1))
 have HF2 : Hid (Fr X w ((w.setCell ⟨q, 0, none⟩ (.slice (some ⟨g, 0, none⟩) (Q.hp.length - 1) cap)).setCell ⟨gp, a, none⟩ (.int .i64 (-1))) X) := (Fr.set (q := ⟨q, 0, none⟩) h.xq _).trans (Fr.set (q := ⟨gp, a, none⟩) h.xp _)
 have e5 : (a : Int) < (Q.pl.length : Int) := by rw [ok.pl, ← ha]; exact ai.2
 rw [hk1] at HQ2 HF2 ⊢
 rw [ha] at ri ⊢
 rw [hk] at c0
 have w1 := wrap_in ((k : Int) + 1 - 1) (by omega) (by omega)
 have e1 : (0 : Int) ≤ (k : Int) := by omega
 have e2 : (k : Int) < (k : Int) + 1 := by omega
 have e3 : (k : Int) ≤ (cap : Int) := by omega
 have e7 : (0 : Int) ≤ (a : Int) := by omega
 clear h hr ok hl ai ha hk hk1
 go_enter Tryz.func352, Tryz.ntmps352
 go_wp2
 go_ret
 exact ⟨rfl, ⟨_, by rw [HPO.out]; exact HQ2.out⟩, HF2.out⟩
end Go.Proofs.YtjhkecnnhddhbaaGreatDoor.Sr

namespace Go.Proofs.YtjhkecnnhddhbaaGreatDoor.Sr
open Go.RowKit Go.Maps Go.Proofs.YtjhkecnnhddhbaaGreatDoor.Pf
set_option maxRecDepth 100000
theorem mLess (q : Nat) (w : World) : (method 461 201 (.pointer (some ⟨q, 0, none⟩)) "Less").run Tryz.prog w = .ok (351, .pointer (some ⟨q, 0, none⟩)) w := by kernel_rfl
theorem mSwap (q : Nat) (w : World) : (method 461 201 (.pointer (some ⟨q, 0, none⟩)) "Swap").run Tryz.prog w = .ok (353, .pointer (some ⟨q, 0, none⟩)) w := by kernel_rfl
theorem mLen (q : Nat) (w : World) : (method 461 201 (.pointer (some ⟨q, 0, none⟩)) "Len").run Tryz.prog w = .ok (201, .pointer (some ⟨q, 0, none⟩)) w := by kernel_rfl
theorem mPop (q : Nat) (w : World) : (method 461 201 (.pointer (some ⟨q, 0, none⟩)) "Pop").run Tryz.prog w = .ok (352, .pointer (some ⟨q, 0, none⟩)) w := by kernel_rfl
end Go.Proofs.YtjhkecnnhddhbaaGreatDoor.Sr

namespace Go.Proofs.YtjhkecnnhddhbaaGreatDoor.Sr
open Go.RowKit Go.Maps Go.Proofs.YtjhkecnnhddhbaaGreatDoor.Pf
set_option maxRecDepth 100000
def Qu.kid (Q : Qu) (i m : Nat) : Nat := if 2 * i + 1 + 1 < m then (if Q.less (2 * i + 1 + 1) (2 * i + 1) then 2 * i + 1 + 1 else 2 * i + 1) else 2 * i + 1
def dnN : Nat → Qu → Nat → Nat → Qu × Nat
 | 0, Q, i, _ => (Q, i)
 | f + 1, Q, i, m => if m ≤ 2 * i + 1 then (Q, i) else if Q.less (Q.kid i m) i then dnN f (Q.swap i (Q.kid i m)) (Q.kid i m) m else (Q, i)
def Qu.dn (Q : Qu) (i m : Nat) : Qu × Nat := dnN m Q i m
theorem dnN_succ (f : Nat) (Q : Qu) (i m : Nat) : dnN (f + 1) Q i m = if m ≤ 2 * i + 1 then (Q, i) else if Q.less (Q.kid i m) i then dnN f (Q.swap i (Q.kid i m)) (Q.kid i m) m else (Q, i) := rfl
theorem kid_lt {Q : Qu} {i m : Nat} (h : ¬ m ≤ 2 * i + 1) : i < Q.kid i m ∧ Q.kid i m < m := by
 unfold Qu.kid
 split
 · split <;> omega
 · omega
theorem dn_more : ∀ (f : Nat) (Q : Qu) (i m : Nat), m ≤ f + i → dnN (f + 1) Q i m = dnN f Q i m := by
 intro f
 induction f with
 | zero => intro Q i m h; rw [dnN_succ, if_pos (by omega)]; rfl
 | succ f ih =>
   intro Q i m h
   conv => lhs; rw [dnN_succ]
   conv => rhs; rw [dnN_succ]
   by_cases h0 : m ≤ 2 * i + 1
   · rw [if_pos h0, if_pos h0]
   · have := (kid_lt (Q := Q) h0).1
     rw [if_neg h0, if_neg h0, ih _ _ _ (by omega)]
theorem dn_fuel (Q : Qu) (i m : Nat) : ∀ d f, m ≤ f + i → dnN (f + d) Q i m = dnN f Q i m := by
 intro d
 induction d with
 | zero => intro f _; rfl
 | succ d ih => intro f h; rw [← ih f h]; exact dn_more (f + d) Q i m (by omega)
theorem dn_same (Q : Qu) (i m f g : Nat) (hf : m ≤ f + i) (hg : m ≤ g + i) : dnN f Q i m = dnN g Q i m := by
 rcases Nat.le_total f g with h | h
 · have := dn_fuel Q i m (g - f) f hf
   rw [show f + (g - f) = g by omega] at this
   exact this.symm
 · have := dn_fuel Q i m (f - g) g hg
   rw [show g + (f - g) = f by omega] at this
   exact this
theorem dn_end {Q : Qu} {i m : Nat} (h : m ≤ 2 * i + 1) : Q.dn i m = (Q, i) := by
 unfold Qu.dn
 rw [dn_same Q i m m (m + 1) (by omega) (by omega), dnN_succ, if_pos h]
theorem dn_stop {Q : Qu} {i m : Nat} (h : Q.less (Q.kid i m) i = false) : Q.dn i m = (Q, i) := by
 unfold Qu.dn
 rw [dn_same Q i m m (m + 1) (by omega) (by omega), dnN_succ]
 split
 · rfl
 · rw [if_neg (by simp [h])]
theorem dn_step {Q : Qu} {i m : Nat} (h0 : ¬ m ≤ 2 * i + 1) (h : Q.less (Q.kid i m) i = true) : Q.dn i m = (Q.swap i (Q.kid i m)).dn (Q.kid i m) m := by
 unfold Qu.dn
 rw [dn_same Q i m m (m + 1) (by omega) (by omega), dnN_succ, if_neg h0, if_pos h]
set_option maxHeartbeats 4000000 in
theorem down_any (w : World) (X : Nat → Prop) (q gp gw : Nat) (vh : Value) (Q : Qu) (h : Qm w X q gp gw vh Q) (n : Nat) (ok : QOk n Q) (i0 m : Nat) (hm : m ≤ Q.hp.length) (hi : i0 ≤ 1000000) :
   Calls Tryz.prog 244 #[.iface 201 (.pointer (some ⟨q, 0, none⟩)), .int .i64 i0, .int .i64 m] w fun e w' => e = .returned (.bool (decide (i0 < (Q.dn i0 m).2))) ∧ Qm w' X q gp gw vh (Q.dn i0 m).1 ∧ Fr X w w' X := by
 have HJ0 : Hid (Qm w X q gp gw vh Q ∧ QOk n Q ∧ Fr X w w X) := ⟨h, ok, Fr.refl _ _⟩
 have hm6 : m ≤ 1000000 := by have := ok.len; omega
 have hml := mLess q
 have hms := mSwap q
 clear h ok
 go_enter Tryz.func244, Tryz.ntmps244
 go_wp2_with fail
 go_loopw [7] (fun t wr => ∃ (k : Nat) (Q' : Qu), k ≤ 1000000 ∧ t = .int .i64 k ∧ Hid (Qm wr X q gp gw vh Q' ∧ QOk n Q' ∧ Fr X w wr X ∧ Q'.hp.length = Q.hp.length ∧ Q'.dn k m = Q.dn i0 m)) (fun t _ => m - (intOf t).toNat)
 case atStart => exact ⟨i0, Q, hi, rfl, HJ0.out.1, HJ0.out.2.1, HJ0.out.2.2, rfl, rfl⟩
 case round =>
   obtain ⟨k, Q', hk, rfl, HJ⟩ := hrel
   have w1 := wrap_in (2 * (k : Int)) (by omega) (by omega)
   have w2 := wrap_in (2 * (k : Int) + 1) (by omega) (by omega)
   have w3 := wrap_in (2 * (k : Int) + 1 + 1) (by omega) (by omega)
   have hn0 : ¬ (2 * (k : Int) + 1 < 0) := by omega
   have hlq : Q'.hp.length = Q.hp.length := HJ.out.2.2.2.1
   by_cases hmk : m ≤ 2 * k + 1
   · have hmi : (m : Int) ≤ 2 * (k : Int) + 1 := by omega
     have HU : Hid ((Q', k) = Q.dn i0 m) := (dn_end hmk).symm.trans HJ.out.2.2.2.2
     clear hmk
     go_wp2
     go_ret
     exact ⟨by rw [← HU.out]; rfl, by rw [← HU.out]; exact HJ.out.1, HJ.out.2.2.1⟩
   · have hmi : ¬ (m : Int) ≤ 2 * (k : Int) + 1 := by omega
     have j1 : ((2 * k + 1 : Nat) : Int) = 2 * (k : Int) + 1 := by omega
     have j2 : ((2 * k + 1 + 1 : Nat) : Int) = 2 * (k : Int) + 1 + 1 := by omega
     by_cases h2 : 2 * k + 1 + 1 < m
     · have h2i : 2 * (k : Int) + 1 + 1 < (m : Int) := by omega
       have hL1 := less_any wr X q gp gw vh Q' HJ.out.1 n HJ.out.2.1 (2 * k + 1 + 1) (2 * k + 1) (by omega) (by omega)
       rw [j1, j2] at hL1
       have HL1 := hide hL1
       clear hL1
       go_wp2_with fail
       refine HL1.out.mono ?_
       rintro e wa ⟨rfl, hba⟩
       have HBA := hide hba
       clear hba HL1
       cases hl1 : Q'.less (2 * k + 1 + 1) (2 * k + 1)
       · have HKk : Hid (Q'.kid k m = 2 * k + 1) := by unfold Hid Qu.kid; rw [if_pos h2, if_neg (by simp [hl1])]
         clear hl1
         have HKD : Hid (Q'.kid k m = 2 * k + 1) := HKk.out
         clear HKk
         have hLS := less_any wa X q gp gw vh Q' (HJ.out.1.later HBA.out) n HJ.out.2.1 (2 * k + 1) k (by omega) (by omega)
         rw [j1] at hLS
         have HLS := hide hLS
         clear hLS
         go_wp2_with fail
         refine HLS.out.mono ?_
         rintro e w3 ⟨rfl, hb3⟩
         have HB3 := hide (bthen HBA.out hb3)
         clear hb3 HLS
         cases hl2 : Q'.less (2 * k + 1) k
         · have HU : Hid ((Q', k) = Q.dn i0 m) := (dn_stop (by rw [HKD.out]; exact hl2)).symm.trans HJ.out.2.2.2.2
           go_wp2
           go_ret
           exact ⟨by rw [← HU.out]; rfl, by rw [← HU.out]; exact HJ.out.1.later HB3.out, HJ.out.2.2.1.trans (Fr.quiet HB3.out)⟩
         · have HU : Hid ((Q'.swap k (2 * k + 1)).dn (2 * k + 1) m = Q.dn i0 m) := by
             have h1 := dn_step (Q := Q') (i := k) (m := m) (by omega) (by rw [HKD.out]; exact hl2)
             rw [HKD.out] at h1
             exact h1.symm.trans HJ.out.2.2.2.2
           have hSW := swap_any w3 X q gp gw vh Q' (HJ.out.1.later HB3.out) n HJ.out.2.1 k (2 * k + 1) (by omega) (by omega)
           rw [j1] at hSW
           have HSW := hide hSW
           clear hSW
           go_wp2_with fail
           refine HSW.out.mono ?_
           rintro e w4 ⟨rfl, hq4, hf4⟩
           have HQ4 := hide hq4
           have HF4 := hide ((HJ.out.2.2.1.trans (Fr.quiet HB3.out)).trans hf4)
           have HOK := hide (HJ.out.2.1.swap (i := k) (j := 2 * k + 1) (by omega) (by omega))
           clear hq4 hf4 HSW
           go_wp2
           go_roundw
           case rel => exact ⟨2 * k + 1, Q'.swap k (2 * k + 1), by omega, by rw [j1], HQ4.out, HOK.out, HF4.out, by simp only [Qu.swap, List.length_set]; exact HJ.out.2.2.2.1, HU.out⟩
           case measure => simp [intOf]; omega
       · have HKk : Hid (Q'.kid k m = 2 * k + 1 + 1) := by unfold Hid Qu.kid; rw [if_pos h2, if_pos hl1]
         clear hl1
         have HKD : Hid (Q'.kid k m = 2 * k + 1 + 1) := HKk.out
         clear HKk
         have hLS := less_any wa X q gp gw vh Q' (HJ.out.1.later HBA.out) n HJ.out.2.1 (2 * k + 1 + 1) k (by omega) (by omega)
         rw [j2] at hLS
         have HLS := hide hLS
         clear hLS
         go_wp2_with fail
         refine HLS.out.mono ?_
         rintro e w3 ⟨rfl, hb3⟩
         have HB3 := hide (bthen HBA.out hb3)
         clear hb3 HLS
         cases hl2 : Q'.less (2 * k + 1 + 1) k
         · have HU : Hid ((Q', k) = Q.dn i0 m) := (dn_stop (by rw [HKD.out]; exact hl2)).symm.trans HJ.out.2.2.2.2
           go_wp2
           go_ret
           exact ⟨by rw [← HU.out]; rfl, by rw [← HU.out]; exact HJ.out.1.later HB3.out, HJ.out.2.2.1.trans (Fr.quiet HB3.out)⟩
         · have HU : Hid ((Q'.swap k (2 * k + 1 + 1)).dn (2 * k + 1 + 1) m = Q.dn i0 m) := by
             have h1 := dn_step (Q := Q') (i := k) (m := m) (by omega) (by rw [HKD.out]; exact hl2)
             rw [HKD.out] at h1
             exact h1.symm.trans HJ.out.2.2.2.2
           have hSW := swap_any w3 X q gp gw vh Q' (HJ.out.1.later HB3.out) n HJ.out.2.1 k (2 * k + 1 + 1) (by omega) (by omega)
           rw [j2] at hSW
           have HSW := hide hSW
           clear hSW
           go_wp2_with fail
           refine HSW.out.mono ?_
           rintro e w4 ⟨rfl, hq4, hf4⟩
           have HQ4 := hide hq4
           have HF4 := hide ((HJ.out.2.2.1.trans (Fr.quiet HB3.out)).trans hf4)
           have HOK := hide (HJ.out.2.1.swap (i := k) (j := 2 * k + 1 + 1) (by omega) (by omega))
           clear hq4 hf4 HSW
           go_wp2
           go_roundw
           case rel => exact ⟨2 * k + 1 + 1, Q'.swap k (2 * k + 1 + 1), by omega, by rw [j2], HQ4.out, HOK.out, HF4.out, by simp only [Qu.swap, List.length_set]; exact HJ.out.2.2.2.1, HU.out⟩
           case measure => simp [intOf]; omega
     · have h2i : ¬ 2 * (k : Int) + 1 + 1 < (m : Int) := by omega
       have HKk : Hid (Q'.kid k m = 2 * k + 1) := by unfold Hid Qu.kid; rw [if_neg h2]
       have HKD : Hid (Q'.kid k m = 2 * k + 1) := HKk.out
       clear HKk
       have hLS := less_any wr X q gp gw vh Q' (HJ.out.1.later (Below.refl _ wr)) n HJ.out.2.1 (2 * k + 1) k (by omega) (by omega)
       rw [j1] at hLS
       have HLS := hide hLS
       clear hLS
       go_wp2_with fail
       refine HLS.out.mono ?_
       rintro e w3 ⟨rfl, hb3⟩
       have HB3 := hide (bthen (Below.refl _ wr) hb3)
       clear hb3 HLS
       cases hl2 : Q'.less (2 * k + 1) k
       · have HU : Hid ((Q', k) = Q.dn i0 m) := (dn_stop (by rw [HKD.out]; exact hl2)).symm.trans HJ.out.2.2.2.2
         go_wp2
         go_ret
         exact ⟨by rw [← HU.out]; rfl, by rw [← HU.out]; exact HJ.out.1.later HB3.out, HJ.out.2.2.1.trans (Fr.quiet HB3.out)⟩
       · have HU : Hid ((Q'.swap k (2 * k + 1)).dn (2 * k + 1) m = Q.dn i0 m) := by
           have h1 := dn_step (Q := Q') (i := k) (m := m) (by omega) (by rw [HKD.out]; exact hl2)
           rw [HKD.out] at h1
           exact h1.symm.trans HJ.out.2.2.2.2
         have hSW := swap_any w3 X q gp gw vh Q' (HJ.out.1.later HB3.out) n HJ.out.2.1 k (2 * k + 1) (by omega) (by omega)
         rw [j1] at hSW
         have HSW := hide hSW
         clear hSW
         go_wp2_with fail
         refine HSW.out.mono ?_
         rintro e w4 ⟨rfl, hq4, hf4⟩
         have HQ4 := hide hq4
         have HF4 := hide ((HJ.out.2.2.1.trans (Fr.quiet HB3.out)).trans hf4)
         have HOK := hide (HJ.out.2.1.swap (i := k) (j := 2 * k + 1) (by omega) (by omega))
         clear hq4 hf4 HSW
         go_wp2
         go_roundw
         case rel => exact ⟨2 * k + 1, Q'.swap k (2 * k + 1), by omega, by rw [j1], HQ4.out, HOK.out, HF4.out, by simp only [Qu.swap, List.length_set]; exact HJ.out.2.2.2.1, HU.out⟩
         case measure => simp [intOf]; omega
end Go.Proofs.YtjhkecnnhddhbaaGreatDoor.Sr
