import Derived.Test.YtabnimgpednhjabGreatDiM
import Derived.Test.YtabnimgpednhjabGreatDk
namespace Go.Proofs.YtabnimgpednhjabGreat.Gg
open Go.RowKit Go.Maps Go.WideMaps
set_option maxRecDepth 100000
def loadC : Op := .load 3 (.tmp 4)
theorem loadC_fold : Op.load 3 (.tmp 4) = loadC := rfl
theorem loadC_is : loadC = Op.load 3 (.tmp 4) := rfl
attribute [local go_sem] loadC_is
theorem enter131 (args : Array Value) (w : World) : (callFunc 131 args).run Tryz.prog w = .ok (.enter 131 args) w := by kernel_rfl
def sumG (n : Nat) (x y c : Int) (ps : Gr) : Int × Int × Gr :=
 let h := differG n x y ps
 let b := differG n h.1 c h.2
 let p := bothG n x y b.2
 let q := bothG n h.1 c p.2
 let e := eitherG n p.1 q.1 q.2
 (b.1, e.1, e.2)
structure SumE (w : World) (M B : Nat) (v : Value) (Pb bb bx by' bc px py ox oy lx ly cx cy k : Nat) (x y c : Int) : Prop where
 b0 : w.cell? ⟨bb, 0, none⟩ = some (.pointer (some ⟨Pb, 0, none⟩))
 b1 : w.cell? ⟨bx, 0, none⟩ = some (.slice (some ⟨px, ox, none⟩) lx cx)
 b2 : w.cell? ⟨by', 0, none⟩ = some (.slice (some ⟨py, oy, none⟩) ly cy)
 b3 : w.cell? ⟨bc, 0, none⟩ = some (.int .i64 c)
 f3 : w.frozen? ⟨bc, 0, none⟩ = false
 x0 : w.cell? ⟨px, ox + k, none⟩ = some (.int .i64 x)
 y0 : w.cell? ⟨py, oy + k, none⟩ = some (.int .i64 y)
 a0 : Apart M B v bb
 a1 : Apart M B v bx
 a2 : Apart M B v by'
 a3 : Apart M B v bc
 a4 : Apart M B v px
 a5 : Apart M B v py
theorem SumE.gon {w w1 : World} {base M B : Nat} {v v1 : Value} {Pb bb bx by' bc px py ox oy lx ly cx cy k : Nat} {x y c : Int} (h : SumE w M B v Pb bb bx by' bc px py ox oy lx ly cx cy k x y c) (hg : Gon base M B w v w1 v1) : SumE w1 M B v1 Pb bb bx by' bc px py ox oy lx ly cx cy k x y c := by
 have L := fun {q : Addr} {u : Value} (hq : w.cell? q = some u) => World.block_lt_of_cell? _ _ hq
 exact ⟨hg.cell h.b0 h.a0, hg.cell h.b1 h.a1, hg.cell h.b2 h.a2, hg.cell h.b3 h.a3, by rw [World.frozen?_of_block (w := w) (hg.far _ (L h.b3) h.a3).1]; exact h.f3, hg.cell h.x0 h.a4, hg.cell h.y0 h.a5,
   (hg.far _ (L h.b0) h.a0).2, (hg.far _ (L h.b1) h.a1).2, (hg.far _ (L h.b2) h.a2).2, (hg.far _ (L h.b3) h.a3).2, (hg.far _ (L h.x0) h.a4).2, (hg.far _ (L h.y0) h.a5).2⟩
set_option maxHeartbeats 8000000 in
theorem op131_any {w : World} {base Pb M B : Nat} {v : Value} {n : Nat} {ps : Gr} (h : Bs w base Pb M B v n ps) (hl : ps.length + 20 < 1000000) {bb bx by' bc px py ox oy lx ly cx cy : Nat} {k : Nat} {x y c : Int}
   (hx : Val n ps x) (hy : Val n ps y) (hc : Val n ps c) (hkx : k < lx) (hky : k < ly) (hE : SumE w M B v Pb bb bx by' bc px py ox oy lx ly cx cy k x y c) (hn0 : bb ≠ bc) (hn1 : bx ≠ bc) (hn2 : by' ≠ bc) (hn3 : px ≠ bc) (hn4 : py ≠ bc) :
   Calls Tryz.prog 131 #[.int .i64 k, .pointer (some ⟨bb, 0, none⟩), .pointer (some ⟨bx, 0, none⟩), .pointer (some ⟨by', 0, none⟩), .pointer (some ⟨bc, 0, none⟩)] w fun e w' =>
     ∃ v' w1, e = .returned (.int .i64 (sumG n x y c ps).1) ∧ w' = w1.setCell ⟨bc, 0, none⟩ (.int .i64 (sumG n x y c ps).2.1) ∧ Bs w1 base Pb M B v' n (sumG n x y c ps).2.2 ∧ Gon base M B w v w1 v' := by
 have d1 := differ_does h.good (by omega) hx hy
 have e1 := d1.ext.len.2
 have d2 := differ_does d1.ext.good (by omega) d1.val (d1.ext.val hc)
 have e2 := d2.ext.len.2
 have d12 := d1.ext.trans d2.ext
 have d3 := both_does d2.ext.good (by omega) (d12.val hx) (d12.val hy)
 have e3 := d3.ext.len.2
 have d123 := d12.trans d3.ext
 have d4 := both_does d3.ext.good (by omega) ((d2.ext.trans d3.ext).val d1.val) (d123.val hc)
 have e4 := d4.ext.len.2
 have H1 := hide (fun (w : World) (h : Bs w base Pb M B v n ps) => differ_any h (by omega) hx hy)
 have H2 := hide (fun (w : World) (v : Value) (h : Bs w base Pb M B v n (differG n x y ps).2) => differ_any h (by omega) d1.val (d1.ext.val hc))
 have H3 := hide (fun (w : World) (v : Value) (h : Bs w base Pb M B v n (differG n (differG n x y ps).1 c (differG n x y ps).2).2) => both_any h (by omega) (d12.val hx) (d12.val hy))
 have H4 := hide (fun (w : World) (v : Value) (h : Bs w base Pb M B v n (bothG n x y (differG n (differG n x y ps).1 c (differG n x y ps).2).2).2) => both_any h (by omega) ((d2.ext.trans d3.ext).val d1.val) (d123.val hc))
 have H5 := hide (fun (w : World) (v : Value) (h : Bs w base Pb M B v n (bothG n (differG n x y ps).1 c (bothG n x y (differG n (differG n x y ps).1 c (differG n x y ps).2).2).2).2) => either_any h (by omega) (d4.ext.val d3.val) d4.val)
 have HH := hide h
 have HE := hide hE
 have hkx' : (k : Int) < (lx : Int) := by omega
 have hky' : (k : Int) < (ly : Int) := by omega
 unfold Made at *
 unfold sumG
 clear d1 d2 d12 d3 d123 d4 h hx hy hc hE hkx hky e1 e2 e3 e4
 simp only
 generalize differG n x y ps = R1 at *
 obtain ⟨L1, q1⟩ := R1
 simp only at H1 H2 H3 H4 H5 ⊢
 generalize differG n L1 c q1 = R2 at *
 obtain ⟨L2, q2⟩ := R2
 simp only at H2 H3 H4 H5 ⊢
 generalize bothG n x y q2 = R3 at *
 obtain ⟨L3, q3⟩ := R3
 simp only at H3 H4 H5 ⊢
 generalize bothG n L1 c q3 = R4 at *
 obtain ⟨L4, q4⟩ := R4
 simp only at H4 H5 ⊢
 generalize eitherG n L3 L4 q4 = R5 at *
 obtain ⟨L5, q5⟩ := R5
 simp only at H5 ⊢
 have b0 := HE.out.b0
 have b1 := HE.out.b1
 have b2 := HE.out.b2
 have x0 := HE.out.x0
 have y0 := HE.out.y0
 go_enter Tryz.func131, Tryz.ntmps131
 go_wp2_with fail
 go_region_held3 (fun w' => w'.cell? ⟨bb, 0, none⟩ = some (.pointer (some ⟨Pb, 0, none⟩)) ∧ w'.cell? ⟨bx, 0, none⟩ = some (.slice (some ⟨px, ox, none⟩) lx cx) ∧ w'.cell? ⟨by', 0, none⟩ = some (.slice (some ⟨py, oy, none⟩) ly cy) ∧ w'.cell? ⟨px, ox + k, none⟩ = some (.int .i64 x) ∧ w'.cell? ⟨py, oy + k, none⟩ = some (.int .i64 y))
   (first | exact ⟨b0, b1, b2, x0, y0⟩ | exact ⟨hgn.cell b0 HE.out.a0, hgn.cell b1 HE.out.a1, hgn.cell b2 HE.out.a2, hgn.cell x0 HE.out.a4, hgn.cell y0 HE.out.a5⟩ | go_keep)
   ((go_at_call 101; with_reducible refine (H1.out _ (HH.out.later (Below.refl _ _).drew)).mono ?_; rintro e w1 ⟨v1, rfl, hbs, hgn⟩))
 have HG1 := hide ((gon_quiet (base := base) (M := M) (B := B) (v := v) (Below.refl base w).drew (Below.refl _ _).drew).trans hgn)
 have HE1 := hide (HE.out.gon HG1.out)
 have HC2 := hide (H2.out _ _ hbs)
 have p0 := HE1.out.b0
 have p3 := HE1.out.b3
 clear b0 b1 b2 x0 y0 hbs hgn H1 H2 HE HH
 rename_i hjunk
 clear hjunk
 go_wp2_with fail
 refine HC2.out.mono ?_
 rintro e w2 ⟨v2, rfl, hbs, hgn⟩
 have HG2 := hide (HG1.out.trans hgn)
 have HE2 := hide (HE1.out.gon hgn)
 have HB2 := hide hbs
 clear p0 p3 hbs hgn HC2 HE1 HG1
 have b0 := HE2.out.b0
 have b1 := HE2.out.b1
 have b2 := HE2.out.b2
 have b3 := HE2.out.b3
 have x0 := HE2.out.x0
 have y0 := HE2.out.y0
 go_wp2_with fail
 simp only [loadC_fold]
 go_region_held3 (fun w' => w'.cell? ⟨bb, 0, none⟩ = some (.pointer (some ⟨Pb, 0, none⟩)) ∧ w'.cell? ⟨bx, 0, none⟩ = some (.slice (some ⟨px, ox, none⟩) lx cx) ∧ w'.cell? ⟨by', 0, none⟩ = some (.slice (some ⟨py, oy, none⟩) ly cy) ∧ w'.cell? ⟨px, ox + k, none⟩ = some (.int .i64 x) ∧ w'.cell? ⟨py, oy + k, none⟩ = some (.int .i64 y))
   (first | exact ⟨b0, b1, b2, x0, y0⟩ | exact ⟨cell_set_far hE5.b0 hn0, cell_set_far hE5.b1 hn1, cell_set_far hE5.b2 hn2, cell_set_far hE5.x0 hn3, cell_set_far hE5.y0 hn4⟩ | exact ⟨hE5.b0, hE5.b1, hE5.b2, hE5.x0, hE5.y0⟩ | exact ⟨hE4.b0, hE4.b1, hE4.b2, hE4.x0, hE4.y0⟩ | exact ⟨hE3.b0, hE3.b1, hE3.b2, hE3.x0, hE3.y0⟩ | go_keep)
   (first
    | (go_at_call 97; with_reducible refine (H3.out _ _ (HB2.out.later (Below.refl _ _).drew)).mono ?_; rintro e w3 ⟨v3, rfl, hbs3, hgn3⟩; have hE3 := HE2.out.gon ((gon_quiet (base := base) (M := M) (B := B) (v := v2) (Below.refl base w2).drew (Below.refl _ _).drew).trans hgn3); have b33 := hE3.b3)
    | (have _ := hbs3; go_at_call 97; with_reducible refine (H4.out _ _ hbs3).mono ?_; rintro e w4 ⟨v4, rfl, hbs4, hgn4⟩; have hE4 := hE3.gon hgn4; have b34 := hE4.b3)
    | (have _ := hbs4; go_at_call 99; with_reducible refine (H5.out _ _ hbs4).mono ?_; rintro e w5 ⟨v5, rfl, hbs5, hgn5⟩; have hE5 := hE4.gon hgn5; have b35 := hE5.b3; have f35 := hE5.f3))
 all_goals
   have HF := hide (And.intro (HG2.out.trans (((gon_quiet (base := base) (M := M) (B := B) (v := v2) (Below.refl base w2).drew (Below.refl _ _).drew).trans hgn3).trans (hgn4.trans hgn5))) hbs5)
   clear hbs3 hgn3 hE3 b33 hbs4 hgn4 hE4 b34 hbs5 hgn5 hE5 b35 f35 b0 b1 b2 b3 x0 y0 H3 H4 H5 HG2 HE2 HB2
   go_wp2
   go_ret
   exact ⟨_, _, rfl, rfl, HF.out.2, HF.out.1⟩
end Go.Proofs.YtabnimgpednhjabGreat.Gg

namespace Go.Proofs.YtabnimgpednhjabGreat.Gg
open Go.RowKit Go.Maps Go.WideMaps
set_option maxRecDepth 100000
def carB (f g : Nat → Bool) (c : Bool) : Nat → Bool
 | 0 => c
 | k + 1 => (f k && g k) || ((f k != g k) && carB f g c k)
def sumS (n : Nat) (xs ys : List Int) : Nat → Int → Gr → Int × Int × Gr := fun k c ps => sumG n (xs.getD k 0) (ys.getD k 0) c ps
structure DoesS (n k : Nat) (ps : Gr) (r : Int × Int × Gr) (f g : List Bool → Bool) : Prop where
 ext : Ext n k ps r.2.2
 val : Val n r.2.2 r.1
 car : Val n r.2.2 r.2.1
 tells : ∀ bs : List Bool, bs.length = n → sem r.2.2 bs r.1 = f bs
 carries : ∀ bs : List Bool, bs.length = n → sem r.2.2 bs r.2.1 = g bs
theorem sumG_does {n : Nat} {ps : Gr} (hg : chkE n ps = 0) (hl : ps.length + 20 < 1000000) {x y c : Int} (hx : Val n ps x) (hy : Val n ps y) (hc : Val n ps c) :
   DoesS n 9 ps (sumG n x y c ps) (fun bs => (sem ps bs x != sem ps bs y) != sem ps bs c) (fun bs => (sem ps bs x && sem ps bs y) || ((sem ps bs x != sem ps bs y) && sem ps bs c)) := by
 have d1 := differ_does hg (by omega) hx hy
 have e1 := d1.ext.len.2
 have d2 := differ_does d1.ext.good (by omega) d1.val (d1.ext.val hc)
 have e2 := d2.ext.len.2
 have d12 := d1.ext.trans d2.ext
 have d3 := both_does d2.ext.good (by omega) (d12.val hx) (d12.val hy)
 have e3 := d3.ext.len.2
 have d123 := d12.trans d3.ext
 have d4 := both_does d3.ext.good (by omega) ((d2.ext.trans d3.ext).val d1.val) (d123.val hc)
 have e4 := d4.ext.len.2
 have d5 := either_does d4.ext.good (by omega) (d4.ext.val d3.val) d4.val
 have dl := d3.ext.trans (d4.ext.trans d5.ext)
 refine ⟨((d123.trans d4.ext).trans d5.ext).more (by omega), dl.val d2.val, d5.val, fun bs hb => ?_, fun bs hb => ?_⟩
 · refine (dl.same bs hb _ d2.val).trans ?_
   rw [d2.tells bs hb, d1.tells bs hb, d1.ext.same bs hb _ hc]
 · refine (d5.tells bs hb).trans ?_
   rw [d4.ext.same bs hb _ d3.val, d3.tells bs hb, d4.tells bs hb, (d2.ext.trans d3.ext).same bs hb _ d1.val, d1.tells bs hb, d123.same bs hb _ hc, d12.same bs hb _ hx, d12.same bs hb _ hy]
theorem getD_val {n : Nat} {ps : Gr} {xs : List Int} (h : Vals n ps xs) {k : Nat} (hk : k < xs.length) : Val n ps (xs.getD k 0) := by
 rw [List.getD, List.getElem?_eq_getElem hk]
 exact h _ (List.getElem_mem hk)
theorem sum_does {n len : Nat} {ps : Gr} (hg : chkE n ps = 0) {xs ys : List Int} {c : Int} (hlx : len ≤ xs.length) (hly : len ≤ ys.length) (hlen : ps.length + 9 * len + 20 < 1000000) (hvx : Vals n ps xs) (hvy : Vals n ps ys) (hc : Val n ps c) :
   ∀ k, k ≤ len → Ext n (9 * k) ps (runS (sumS n xs ys) c ps k).2.2 ∧ Vals n (runS (sumS n xs ys) c ps k).2.2 (runS (sumS n xs ys) c ps k).1 ∧ Val n (runS (sumS n xs ys) c ps k).2.2 (runS (sumS n xs ys) c ps k).2.1 ∧
     ∀ bs : List Bool, bs.length = n → sems (runS (sumS n xs ys) c ps k).2.2 bs (runS (sumS n xs ys) c ps k).1 = ((List.range k).map fun i => (sem ps bs (xs.getD i 0) != sem ps bs (ys.getD i 0)) != carB (fun i => sem ps bs (xs.getD i 0)) (fun i => sem ps bs (ys.getD i 0)) (sem ps bs c) i) ∧
       sem (runS (sumS n xs ys) c ps k).2.2 bs (runS (sumS n xs ys) c ps k).2.1 = carB (fun i => sem ps bs (xs.getD i 0)) (fun i => sem ps bs (ys.getD i 0)) (sem ps bs c) k := by
 intro k
 induction k with
 | zero => intro _; exact ⟨Ext.refl hg, fun x hx => absurd hx List.not_mem_nil, hc, fun _ _ => ⟨rfl, rfl⟩⟩
 | succ k ih =>
   intro hk
   obtain ⟨i1, i2, i3, i4⟩ := ih (by omega)
   have l1 := i1.len.2
   have vx := getD_val hvx (show k < xs.length by omega)
   have vy := getD_val hvy (show k < ys.length by omega)
   have d := sumG_does i1.good (by omega) (i1.val vx) (i1.val vy) i3
   refine ⟨(i1.trans d.ext).more (by omega), fun x hx => ?_, d.car, fun bs hb => ?_⟩
   · rcases List.mem_append.1 hx with hx | hx
     · exact d.ext.val (i2 x hx)
     · rw [List.mem_singleton.1 hx]; exact d.val
   · obtain ⟨j1, j2⟩ := i4 bs hb
     constructor
     · show sems (sumG n _ _ _ _).2.2 bs ((runS (sumS n xs ys) c ps k).1 ++ [(sumG n (xs.getD k 0) (ys.getD k 0) (runS (sumS n xs ys) c ps k).2.1 (runS (sumS n xs ys) c ps k).2.2).1]) = _
       unfold sems
       rw [List.map_append, List.range_succ, List.map_append]
       congr 1
       · exact (d.ext.sems hb i2).trans j1
       · refine congrArg (fun b => [b]) ((d.tells bs hb).trans ?_)
         rw [j2, i1.same bs hb _ vx, i1.same bs hb _ vy]
     · refine (d.carries bs hb).trans ?_
       rw [j2, i1.same bs hb _ vx, i1.same bs hb _ vy]
       rfl
structure GonX (base M B bc : Nat) (w : World) (v : Value) (w' : World) (v' : Value) : Prop where
 bel : Below base w w'
 far : ∀ g, g < w.heap.size → Apart M B v g → (g ≠ bc → w'.heap[g]? = w.heap[g]?) ∧ Apart M B v' g
theorem GonX.cell {base M B bc : Nat} {w w1 : World} {v v1 : Value} (h : GonX base M B bc w v w1 v1) {q : Addr} {x : Value} (hq : w.cell? q = some x) (ha : Apart M B v q.block) (hne : q.block ≠ bc) : w1.cell? q = some x := by
 rw [World.cell?_of_block (w := w) ((h.far _ (World.block_lt_of_cell? _ _ hq) ha).1 hne)]
 exact hq
theorem GonX.ap {base M B bc : Nat} {w w1 : World} {v v1 : Value} (h : GonX base M B bc w v w1 v1) {q : Addr} {x : Value} (hq : w.cell? q = some x) (ha : Apart M B v q.block) : Apart M B v1 q.block := (h.far _ (World.block_lt_of_cell? _ _ hq) ha).2
theorem GonX.set {base M B bc : Nat} {w w1 : World} {v v1 : Value} (h : GonX base M B bc w v w1 v1) (hb : base ≤ w.heap.size) {j : Nat} {x : Value} : GonX base M B bc w v (w1.setCell ⟨w.heap.size, j, none⟩ x) v1 :=
 ⟨h.bel.setCell (p := ⟨w.heap.size, j, none⟩) hb x, fun g hg ha => ⟨fun hne => by rw [Below.heap_setCell _ _ _ _ (by simp; omega)]; exact (h.far g hg ha).1 hne, (h.far g hg ha).2⟩⟩
theorem GonX.step {base M B bc : Nat} {w w1 w2 : World} {v v1 v2 : Value} (h : GonX base M B bc w v w1 v1) (k : Gon base M B w1 v1 w2 v2) (hb : base ≤ bc) {x : Value} : GonX base M B bc w v (w2.setCell ⟨bc, 0, none⟩ x) v2 :=
 ⟨(h.bel.trans k.bel).setCell (p := ⟨bc, 0, none⟩) hb x, fun g hg ha => by
   obtain ⟨h1, h2⟩ := h.far g hg ha
   obtain ⟨k1, k2⟩ := k.far g (Nat.lt_of_lt_of_le hg h.bel.size) h2
   exact ⟨fun hne => by rw [Below.heap_setCell _ _ _ _ (by simpa using hne)]; exact k1.trans (h1 hne), k2⟩⟩
set_option maxHeartbeats 4000000 in
theorem sumW_any {w : World} {base Pb M B : Nat} {v : Value} {n : Nat} {ps : Gr} (h : Bs w base Pb M B v n ps) {xs ys : List Int} {px py : Option Addr} {bb bx by' bc cx cy len : Nat} {c : Int} (hlx : len ≤ xs.length) (hly : len ≤ ys.length) (hn : len ≤ 8) (hl : ps.length + 9 * len + 20 < 1000000)
   (hvx : Vals n ps xs) (hvy : Vals n ps ys) (hc : Val n ps c) (b0 : w.cell? ⟨bb, 0, none⟩ = some (.pointer (some ⟨Pb, 0, none⟩))) (b1 : w.cell? ⟨bx, 0, none⟩ = some (.slice px xs.length cx)) (b2 : w.cell? ⟨by', 0, none⟩ = some (.slice py ys.length cy))
   (b3 : w.cell? ⟨bc, 0, none⟩ = some (.int .i64 c)) (f3 : w.frozen? ⟨bc, 0, none⟩ = false)
   (hX : LA w M B v px xs) (hY : LA w M B v py ys) (a0 : Apart M B v bb) (a1 : Apart M B v bx) (a2 : Apart M B v by') (a3 : Apart M B v bc)
   (hbc : base ≤ bc) (hPb : bc ≠ Pb) (hn0 : bb ≠ bc) (hn1 : bx ≠ bc) (hn2 : by' ≠ bc) (hn3 : ∀ g off, px = some ⟨g, off, none⟩ → 0 < xs.length → g ≠ bc) (hn4 : ∀ g off, py = some ⟨g, off, none⟩ → 0 < ys.length → g ≠ bc) :
   Calls Tryz.prog 56 #[.int .i64 len, .func (.func 131) #[] #[.pointer (some ⟨bb, 0, none⟩), .pointer (some ⟨bx, 0, none⟩), .pointer (some ⟨by', 0, none⟩), .pointer (some ⟨bc, 0, none⟩)]] w fun e w' =>
     ∃ v', e = .returned (.slice (some ⟨w.heap.size, 0, none⟩) len len) ∧ IRow w' w.heap.size (runS (sumS n xs ys) c ps len).1 ∧ Bs w' base Pb M B v' n (runS (sumS n xs ys) c ps len).2.2 ∧ GonX base M B bc w v w' v' ∧ Apart M B v' w.heap.size ∧
       w'.cell? ⟨bc, 0, none⟩ = some (.int .i64 (runS (sumS n xs ys) c ps len).2.1) := by
 have hd := sum_does h.good hlx hly hl hvx hvy hc
 have hw := World.block_lt_of_cell? _ _ b3
 simp only at hw
 refine (made4_any 131 _ _ _ _ (fun k => (sumS n xs ys k (runS (sumS n xs ys) c ps k).2.1 (runS (sumS n xs ys) c ps k).2.2).1) len (by omega)
   (fun k wr => w.heap.size < wr.heap.size ∧ ∃ v', Bs wr base Pb M B v' n (runS (sumS n xs ys) c ps k).2.2 ∧ GonX base M B bc w v wr v' ∧ Apart M B v' w.heap.size ∧ wr.cell? ⟨bc, 0, none⟩ = some (.int .i64 (runS (sumS n xs ys) c ps k).2.1) ∧ wr.frozen? ⟨bc, 0, none⟩ = false) w ?_ ?_ enter131 ?_).mono ?_
 · intro w1 hb hlt
   exact ⟨hlt, v, h.later hb, ⟨hb.mono h.hb, fun g hg ha => ⟨fun _ => hb.block g hg, ha⟩⟩, h.bm.new (Nat.le_refl _), cell_later hb b3, by rw [World.frozen?_of_block (w := w) (hb.block _ hw)]; exact f3⟩
 · rintro k j w1 x ⟨hlt, v', hbs, hgn, hap, hcc, hff⟩
   exact ⟨by simpa using hlt, v', hbs.set hap (fun e => by have := World.block_lt_of_cell? _ _ h.p0; simp only at this e; omega), hgn.set h.hb, hap, cell_set_far hcc (by simp only [ne_eq]; omega), by rw [World.frozen?_setCell]; exact hff⟩
 · rintro k hk wr hlt ⟨_, v', hbs, hgn, hap, hcc, hff⟩
   obtain ⟨gx, ox, rfl, hcx⟩ := hX.1 (by omega)
   obtain ⟨gy, oy, rfl, hcy⟩ := hY.1 (by omega)
   obtain ⟨i1, i2, i3, i4⟩ := hd k (by omega)
   have l1 := i1.len.2
   have gx1 : xs.getD k 0 = xs[k]'(by omega) := by rw [List.getD, List.getElem?_eq_getElem (by omega)]; rfl
   have gy1 : ys.getD k 0 = ys[k]'(by omega) := by rw [List.getD, List.getElem?_eq_getElem (by omega)]; rfl
   have ax := hX.2 _ _ rfl (by omega)
   have ay := hY.2 _ _ rfl (by omega)
   have nx := hn3 _ _ rfl (by omega)
   have ny := hn4 _ _ rfl (by omega)
   have ac := hgn.ap b3 a3
   refine (op131_any hbs (by omega) (i1.val (hvx _ (List.getElem_mem (h := (by omega : k < xs.length))))) (i1.val (hvy _ (List.getElem_mem (h := (by omega : k < ys.length))))) i3 (show k < xs.length by omega) (show k < ys.length by omega)
     ⟨hgn.cell b0 a0 hn0, hgn.cell b1 a1 hn1, hgn.cell b2 a2 hn2, hcc, hff, hgn.cell (hcx k (by omega)) ax nx, hgn.cell (hcy k (by omega)) ay ny, hgn.ap b0 a0, hgn.ap b1 a1, hgn.ap b2 a2, ac, hgn.ap (hcx k (by omega)) ax, hgn.ap (hcy k (by omega)) ay⟩ hn0 hn1 hn2 nx ny).mono ?_
   rintro e w' ⟨v2, w1, rfl, rfl, hbs2, hgn2⟩
   have ha2 := hgn2.far _ hlt hap
   have hw1 : bc < wr.heap.size := by omega
   have hc2 := hgn2.far _ hw1 ac
   refine ⟨by rw [sumS, gx1, gy1], ⟨by simpa using Nat.lt_of_lt_of_le hlt hgn2.bel.size, v2, ?_, hgn.step hgn2 hbc, ha2.2, ?_, ?_⟩, by simpa using hgn2.bel.size, ?_⟩
   · show Bs _ base Pb M B v2 n ((sumS n xs ys k _ _).2.2)
     rw [sumS, gx1, gy1]
     exact hbs2.set hc2.2 hPb
   · show _ = some (Value.int IntKind.i64 (sumS n xs ys k _ _).2.1)
     rw [sumS, gx1, gy1]
     exact World.cell?_setCell_same _ _ _ (hgn2.cell hcc ac)
   · rw [World.frozen?_setCell, World.frozen?_of_block (w := wr) hc2.1]
     exact hff
   · rw [Below.heap_setCell _ _ _ _ (by simp only [ne_eq]; omega)]
     exact ha2.1
 · rintro e w' ⟨rfl, hrow, ⟨hlt, v', hbs, hgn, hap, hcc, _⟩, _⟩
   exact ⟨v', rfl, by rw [runS_map]; exact hrow, hbs, hgn, hap, hcc⟩
end Go.Proofs.YtabnimgpednhjabGreat.Gg

namespace Go.Proofs.YtabnimgpednhjabGreat.Gg
open Go.RowKit Go.Maps Go.WideMaps
set_option maxRecDepth 100000
theorem la_row {w : World} {M B G : Nat} {v : Value} {l : List Int} (h : IRow w G l) (ha : Apart M B v G) : LA w M B v (some ⟨G, 0, none⟩) l :=
 ⟨irow_ints h, fun g off hp _ => by cases hp; exact ha⟩
def MadeS (w : World) (base Pb M B : Nat) (v : Value) (n len : Nat) (r : List Int × Int × Gr) (e : Ending) (w' : World) : Prop :=
 ∃ v' G, e = .returned (.tuple #[.slice (some ⟨G, 0, none⟩) len len, .int .i64 r.2.1]) ∧ w.heap.size ≤ G ∧ IRow w' G r.1 ∧ Bs w' base Pb M B v' n r.2.2 ∧ Gon base M B w v w' v' ∧ Apart M B v' G
def sumL (n : Nat) (xs ys : List Int) (c : Int) (ps : Gr) : List Int × Int × Gr := runS (sumS n xs ys) c ps xs.length
set_option maxHeartbeats 4000000 in
theorem sum_any {w : World} {base Pb M B : Nat} {v : Value} {n : Nat} {ps : Gr} (h : Bs w base Pb M B v n ps) {xs ys : List Int} {px py : Option Addr} {cx cy : Nat} {c : Int} (hly : xs.length ≤ ys.length) (hn : xs.length ≤ 8) (hl : ps.length + 9 * xs.length + 20 < 1000000)
   (hvx : Vals n ps xs) (hvy : Vals n ps ys) (hc : Val n ps c) (hX : LA w M B v px xs) (hY : LA w M B v py ys) :
   Calls Tryz.prog 124 #[.pointer (some ⟨Pb, 0, none⟩), .slice px xs.length cx, .slice py ys.length cy, .int .i64 c] w (MadeS w base Pb M B v n xs.length (sumL n xs ys c ps)) := by
 have hb4 : Below w.heap.size w ((((w.alloc (.cells #[.pointer (some ⟨Pb, 0, none⟩)] 64)).alloc (.cells #[.slice px xs.length cx] 25)).alloc (.cells #[.slice py ys.length cy] 25)).alloc (.cells #[.int .i64 c] 3)) := bal (bal (bal (bal (Below.refl _ _) _) _) _) _
 have hPb := World.block_lt_of_cell? _ _ h.p0
 simp only at hPb
 have ap := fun (g : Nat) (hg : w.heap.size ≤ g) => h.bm.new hg
 have lx : ∀ g off, px = some ⟨g, off, none⟩ → 0 < xs.length → g < w.heap.size := fun g off hp h0 => by
   obtain ⟨g', off', hp', hc'⟩ := hX.1 h0
   rw [hp] at hp'; cases hp'
   exact World.block_lt_of_cell? _ _ (hc' 0 h0)
 have ly : ∀ g off, py = some ⟨g, off, none⟩ → 0 < ys.length → g < w.heap.size := fun g off hp h0 => by
   obtain ⟨g', off', hp', hc'⟩ := hY.1 h0
   rw [hp] at hp'; cases hp'
   exact World.block_lt_of_cell? _ _ (hc' 0 h0)
 have hS := sumW_any (h.later hb4) (bb := w.heap.size) (bx := w.heap.size + 1) (by' := w.heap.size + 2) (bc := w.heap.size + 3) (cx := cx) (cy := cy) (Nat.le_refl xs.length) hly hn hl hvx hvy hc
   (by simp [go_sem]) (by simp [go_sem]) (by simp [go_sem]) (by simp [go_sem]) (by simp [go_sem]) (hX.later hb4) (hY.later hb4) (ap _ (by omega)) (ap _ (by omega)) (ap _ (by omega)) (ap _ (by omega)) (by have := h.hb; omega) (by omega) (by omega) (by omega) (by omega)
   (fun g off hp h0 => by have := lx g off hp h0; omega) (fun g off hp h0 => by have := ly g off hp h0; omega)
 have HS := hide hS
 have HB := hide (h.hb)
 have HB4 := hide hb4
 clear hS hb4 h hX hY hvx hvy hc lx ly ap
 unfold MadeS sumL
 go_enter Tryz.func124, Tryz.ntmps124
 go_wp2_with fail
 refine HS.out.mono ?_
 rintro e w1 ⟨v', rfl, hrow, hbs, hgn, hap, hcc⟩
 have HG : Hid (Gon base M B w v w1 v') := hide ⟨(HB4.out.mono HB.out).trans hgn.bel, fun g hg ha => by
   have := hgn.far g (Nat.lt_of_lt_of_le hg HB4.out.size) ha
   exact ⟨(this.1 (by omega)).trans (HB4.out.block g hg), this.2⟩⟩
 have HR := hide (And.intro hrow (And.intro hbs hap))
 have hcc' : w1.cell? ⟨w.heap.size + 1 + 1 + 1, 0, none⟩ = some (.int .i64 (runS (sumS n xs ys) c ps xs.length).2.1) := hcc
 have HZ : Hid (w.heap.size ≤ ((((w.alloc (.cells #[.pointer (some ⟨Pb, 0, none⟩)] 64)).alloc (.cells #[.slice px xs.length cx] 25)).alloc (.cells #[.slice py ys.length cy] 25)).alloc (.cells #[.int .i64 c] 3)).heap.size) := hide HB4.out.size
 clear hrow hbs hgn hap hcc HS HB HB4
 generalize ((((w.alloc (.cells #[.pointer (some ⟨Pb, 0, none⟩)] 64)).alloc (.cells #[.slice px xs.length cx] 25)).alloc (.cells #[.slice py ys.length cy] 25)).alloc (.cells #[.int .i64 c] 3)).heap.size = G at *
 go_wp2_with fail
 go_region_held3 (fun w' => w'.cell? ⟨w.heap.size + 1 + 1 + 1, 0, none⟩ = some (.int .i64 (runS (sumS n xs ys) c ps xs.length).2.1)) (first | exact hcc' | go_keep) (fail)
 go_wp2
 go_ret2
 exact ⟨v', _, rfl, HZ.out, HR.out.1, HR.out.2.1.later (Below.refl _ _).drew, HG.out.trans (gon_quiet (Below.refl _ _).drew (Below.refl _ _).drew), HR.out.2.2⟩
theorem sumL_len (n : Nat) (xs ys : List Int) (c : Int) (ps : Gr) : (sumL n xs ys c ps).1.length = xs.length := runS_len _ _ _ _
theorem Vals.turns {n : Nat} {ps : Gr} {l : List Int} (h : Vals n ps l) : Vals n ps (l.map turn) := fun x hx => by
 obtain ⟨y, hy, rfl⟩ := List.mem_map.1 hx
 exact (h y hy).turn
set_option maxHeartbeats 4000000 in
theorem difference_any {w : World} {base Pb M B : Nat} {v : Value} {n : Nat} {ps : Gr} (h : Bs w base Pb M B v n ps) {xs ys : List Int} {px py : Option Addr} {cx cy : Nat} (hly : xs.length ≤ ys.length) (hn : xs.length ≤ 8) (hny : ys.length ≤ 8) (hl : ps.length + 9 * xs.length + 20 < 1000000)
   (hvx : Vals n ps xs) (hvy : Vals n ps ys) (hX : LA w M B v px xs) (hY : LA w M B v py ys) :
   Calls Tryz.prog 123 #[.pointer (some ⟨Pb, 0, none⟩), .slice px xs.length cx, .slice py ys.length cy] w (MadeS w base Pb M B v n xs.length (sumL n xs (ys.map turn) 1 ps)) := by
 have hins := h.ins
 have HT := hide (turnedB_any ys py cy (fun x hx => ⟨(hvy x hx).1, by have := (hvy x hx).2; omega⟩) (by omega) w hY.1)
 have HS := hide (fun (w1 : World) (G : Nat) (hr : IRow w1 G (ys.map turn)) (hG : w.heap.size ≤ G) (hb : Below w.heap.size w w1) =>
   sum_any (h.later hb) (xs := xs) (ys := ys.map turn) (px := px) (py := some ⟨G, 0, none⟩) (cx := cx) (cy := ys.length) (c := 1) (by simpa using hly) hn hl hvx hvy.turns (val_yes _ _) (hX.later hb) (la_row hr (h.bm.new hG)))
 have HB := hide h.hb
 clear h hX hY hvx hvy hins
 unfold MadeS at *
 generalize sumL n xs (ys.map turn) 1 ps = R at *
 obtain ⟨l, c, qs⟩ := R
 simp only [List.length_map] at HS ⊢
 go_enter Tryz.func123, Tryz.ntmps123
 go_wp2_with fail
 refine HT.out.mono ?_
 rintro e w1 ⟨G, rfl, hG, hr, hb⟩
 have HS1 := hide (HS.out w1 G hr hG hb)
 have HB1 := hide hb
 clear HS HT hr hb hG
 go_wp2_with fail
 refine HS1.out.mono ?_
 rintro e w2 ⟨v', G', rfl, hG', hrow, hbs, hgn, hap⟩
 have HF := hide (And.intro (Nat.le_trans HB1.out.size hG') (And.intro hrow (And.intro hbs (And.intro ((gon_quiet (base := base) (M := M) (B := B) (v := v) (HB1.out.mono HB.out) HB1.out).trans hgn) hap))))
 clear hG' hrow hbs hgn hap HS1 HB1 HB
 go_wp2
 go_ret2
 exact ⟨v', G', rfl, HF.out⟩
end Go.Proofs.YtabnimgpednhjabGreat.Gg

namespace Go.Proofs.YtabnimgpednhjabGreat.Gg
open Go.RowKit Go.Maps Go.WideMaps
set_option maxRecDepth 100000
set_option maxHeartbeats 4000000 in
theorem plain4_any {w : World} {base Pb M B : Nat} {v : Value} {n : Nat} {ps : Gr} (h : Bs w base Pb M B v n ps) (fn : FuncId) (c0 c1 c2 c3 : Value) (hent : ∀ (args : Array Value) (w : World), (callFunc fn args).run Tryz.prog w = .ok (.enter fn args) w)
   (g : Nat → Gr → Int × Gr) {len : Nat} (hn : len ≤ 1000)
   (hop : ∀ k, k < len → ∀ wr v', Bs wr base Pb M B v' n (runS (plainS g) () ps k).2.2 → Gon base M B w v wr v' → Calls Tryz.prog fn #[.int .i64 k, c0, c1, c2, c3] wr (Made wr base Pb M B v' n (g k (runS (plainS g) () ps k).2.2))) :
   Calls Tryz.prog 56 #[.int .i64 len, .func (.func fn) #[] #[c0, c1, c2, c3]] w (MadeL w base Pb M B v n len ((runS (plainS g) () ps len).1, (runS (plainS g) () ps len).2.2)) := by
 refine (made4_any fn _ _ _ _ (fun k => (plainS g k () (runS (plainS g) () ps k).2.2).1) len hn
   (fun k wr => w.heap.size < wr.heap.size ∧ ∃ v', Bs wr base Pb M B v' n (runS (plainS g) () ps k).2.2 ∧ Gon base M B w v wr v' ∧ Apart M B v' w.heap.size) w ?_ ?_ hent ?_).mono ?_
 · intro w1 hb hlt
   exact ⟨hlt, v, h.later hb, gon_quiet (hb.mono h.hb) hb, h.bm.new (Nat.le_refl _)⟩
 · rintro k j w1 x ⟨hlt, v', hbs, hgn, hap⟩
   exact ⟨by simpa using hlt, v', hbs.set hap (fun e => by have := World.block_lt_of_cell? _ _ h.p0; simp only at this e; omega), hgn.set h.hb, hap⟩
 · rintro k hk wr hlt ⟨_, v', hbs, hgn, hap⟩
   refine (hop k hk wr v' hbs hgn).mono ?_
   rintro e w' ⟨v2, rfl, hbs2, hgn2⟩
   have ha2 := hgn2.far _ hlt hap
   exact ⟨rfl, ⟨Nat.lt_of_lt_of_le hlt hgn2.bel.size, v2, hbs2, hgn.trans hgn2, ha2.2⟩, hgn2.bel.size, ha2.1⟩
 · rintro e w' ⟨rfl, hrow, ⟨hlt, v', hbs, hgn, hap⟩, _⟩
   exact ⟨v', rfl, by rw [runS_map]; exact hrow, hbs, hgn, hap⟩
theorem enter132 (args : Array Value) (w : World) : (callFunc 132 args).run Tryz.prog w = .ok (.enter 132 args) w := by kernel_rfl
theorem enter135 (args : Array Value) (w : World) : (callFunc 135 args).run Tryz.prog w = .ok (.enter 135 args) w := by kernel_rfl
theorem enter102 (args : Array Value) (w : World) : (callFunc 102 args).run Tryz.prog w = .ok (.enter 102 args) w := by kernel_rfl
theorem atL_val {n : Nat} {ps : Gr} {l : List Int} (h : Vals n ps l) (i : Int) : Val n ps (atL l i) := by
 unfold atL
 split
 · rename_i hi; exact getD_val h (by omega)
 · exact val_no _ _
set_option maxHeartbeats 4000000 in
theorem op132_any {w : World} {base Pb M B : Nat} {v : Value} {n : Nat} {ps : Gr} (h : Bs w base Pb M B v n ps) (hl : ps.length < 1000000) {bb bq bx bd cx : Nat} {px : Option Addr} {xs : List Int} {k : Nat} {q d : Int}
   (hq : Val n ps q) (hvx : Vals n ps xs) (hk : k ≤ 1000) (hd0 : -1000 ≤ d) (hd1 : d ≤ 1000) (b0 : w.cell? ⟨bb, 0, none⟩ = some (.pointer (some ⟨Pb, 0, none⟩))) (b1 : w.cell? ⟨bq, 0, none⟩ = some (.int .i64 q)) (b2 : w.cell? ⟨bx, 0, none⟩ = some (.slice px xs.length cx)) (b3 : w.cell? ⟨bd, 0, none⟩ = some (.int .i64 d))
   (hX : IntsAt w px xs) (a0 : Apart M B v bb) (a1 : Apart M B v bq) (a2 : Apart M B v bx) (a3 : Apart M B v bd) :
   Calls Tryz.prog 132 #[.int .i64 k, .pointer (some ⟨bb, 0, none⟩), .pointer (some ⟨bq, 0, none⟩), .pointer (some ⟨bx, 0, none⟩), .pointer (some ⟨bd, 0, none⟩)] w (Made w base Pb M B v n (bothG n q (atL xs (k - d)) ps)) := by
 have HC := hide (fun (w1 : World) (hb : Bs w1 base Pb M B v n ps) => both_any hb hl hq (atL_val hvx (k - d)))
 have HH := hide h
 have HX := hide (at_any xs px cx (k - d) w.drew (hX.later (Below.refl _ _).drew))
 have HA := hide (And.intro a0 (And.intro a1 (And.intro a2 a3)))
 have hwr := wrap_id (x := (k : Int) - d) (by omega) (by omega)
 unfold Made at *
 generalize bothG n q (atL xs (k - d)) ps = R at *
 generalize atL xs (k - d) = z at *
 obtain ⟨L, qs⟩ := R
 simp only at HC ⊢
 clear h hq a0 a1 a2 a3 hX hvx
 go_enter Tryz.func132, Tryz.ntmps132
 go_wp2_with fail
 go_region_held3 (fun w' => w'.cell? ⟨bb, 0, none⟩ = some (.pointer (some ⟨Pb, 0, none⟩)) ∧ w'.cell? ⟨bq, 0, none⟩ = some (.int .i64 q) ∧ w'.cell? ⟨bx, 0, none⟩ = some (.slice px xs.length cx) ∧ w'.cell? ⟨bd, 0, none⟩ = some (.int .i64 d))
   (first | exact ⟨b0, b1, b2, b3⟩ | exact ⟨hgn.cell b0 HA.out.1, hgn.cell b1 HA.out.2.1, hgn.cell b2 HA.out.2.2.1, hgn.cell b3 HA.out.2.2.2⟩ | go_keep)
   (first
    | (go_at_call 106; refine HX.out.mono ?_; rintro e w1 ⟨rfl, rfl⟩)
    | (go_at_call 97; with_reducible refine (HC.out _ (HH.out.later (Below.refl _ _).drew)).mono ?_; rintro e w1 ⟨v1, rfl, hbs, hgn⟩))
 have HR := hide (And.intro hbs ((gon_quiet (Below.refl _ _).drew (Below.refl _ _).drew).trans hgn))
 clear hbs hgn
 go_wp2
 go_ret
 exact ⟨v1, rfl, HR.out.1, HR.out.2⟩
set_option maxHeartbeats 4000000 in
theorem op135_any {w : World} {base Pb M B : Nat} {v : Value} {n : Nat} {ps : Gr} (h : Bs w base Pb M B v n ps) (hl : ps.length + 2 < 1000000) {bb bq bx bd cx gx ox : Nat} {xs : List Int} {k : Nat} {q d x : Int}
   (hq : Val n ps q) (hvx : Vals n ps xs) (hx : Val n ps x) (hk : k ≤ 1000) (hkx : k < xs.length) (hd0 : -1000 ≤ d) (hd1 : d ≤ 1000) (b0 : w.cell? ⟨bb, 0, none⟩ = some (.pointer (some ⟨Pb, 0, none⟩))) (b1 : w.cell? ⟨bq, 0, none⟩ = some (.int .i64 q)) (b2 : w.cell? ⟨bx, 0, none⟩ = some (.slice (some ⟨gx, ox, none⟩) xs.length cx)) (b3 : w.cell? ⟨bd, 0, none⟩ = some (.int .i64 d))
   (x0 : w.cell? ⟨gx, ox + k, none⟩ = some (.int .i64 x)) (hX : IntsAt w (some ⟨gx, ox, none⟩) xs) (a0 : Apart M B v bb) (a1 : Apart M B v bq) (a2 : Apart M B v bx) (a3 : Apart M B v bd) (a4 : Apart M B v gx) :
   Calls Tryz.prog 135 #[.int .i64 k, .pointer (some ⟨bb, 0, none⟩), .pointer (some ⟨bq, 0, none⟩), .pointer (some ⟨bx, 0, none⟩), .pointer (some ⟨bd, 0, none⟩)] w (Made w base Pb M B v n (chooseG n q (atL xs (k - d)) x ps)) := by
 have HC := hide (fun (w1 : World) (hb : Bs w1 base Pb M B v n ps) => choose_any hb hl hq (atL_val hvx (k - d)) hx)
 have HH := hide h
 have HX := hide (at_any xs (some ⟨gx, ox, none⟩) cx (k - d) w.drew (hX.later (Below.refl _ _).drew))
 have HA := hide (And.intro a0 (And.intro a1 (And.intro a2 (And.intro a3 a4))))
 have hwr := wrap_id (x := (k : Int) - d) (by omega) (by omega)
 have hkx' : (k : Int) < (xs.length : Int) := by omega
 unfold Made at *
 generalize chooseG n q (atL xs (k - d)) x ps = R at *
 generalize atL xs (k - d) = z at *
 obtain ⟨L, qs⟩ := R
 simp only at HC ⊢
 clear h hq a0 a1 a2 a3 a4 hX hvx hx hkx
 go_enter Tryz.func135, Tryz.ntmps135
 go_wp2_with fail
 go_region_held3 (fun w' => w'.cell? ⟨bb, 0, none⟩ = some (.pointer (some ⟨Pb, 0, none⟩)) ∧ w'.cell? ⟨bq, 0, none⟩ = some (.int .i64 q) ∧ w'.cell? ⟨bx, 0, none⟩ = some (.slice (some ⟨gx, ox, none⟩) xs.length cx) ∧ w'.cell? ⟨bd, 0, none⟩ = some (.int .i64 d) ∧ w'.cell? ⟨gx, ox + k, none⟩ = some (.int .i64 x))
   (first | exact ⟨b0, b1, b2, b3, x0⟩ | exact ⟨hgn.cell b0 HA.out.1, hgn.cell b1 HA.out.2.1, hgn.cell b2 HA.out.2.2.1, hgn.cell b3 HA.out.2.2.2.1, hgn.cell x0 HA.out.2.2.2.2⟩ | go_keep)
   (first
    | (go_at_call 106; refine HX.out.mono ?_; rintro e w1 ⟨rfl, rfl⟩)
    | (go_at_call 103; with_reducible refine (HC.out _ (HH.out.later (Below.refl _ _).drew)).mono ?_; rintro e w1 ⟨v1, rfl, hbs, hgn⟩))
 have HR := hide (And.intro hbs ((gon_quiet (Below.refl _ _).drew (Below.refl _ _).drew).trans hgn))
 clear hbs hgn
 go_wp2
 go_ret
 exact ⟨v1, rfl, HR.out.1, HR.out.2⟩
set_option maxHeartbeats 4000000 in
theorem op102_any {w : World} {base Pb M B : Nat} {v : Value} {n : Nat} {ps : Gr} (h : Bs w base Pb M B v n ps) (hl : ps.length + 2 < 1000000) {bb bx by' bz px py pz ox oy oz lx ly lz cx cy cz : Nat} {k : Nat} {x y z : Int}
   (hx : Val n ps x) (hy : Val n ps y) (hz : Val n ps z) (hlx : 0 < lx) (hky : k < ly) (hkz : k < lz) (b0 : w.cell? ⟨bb, 0, none⟩ = some (.pointer (some ⟨Pb, 0, none⟩))) (b1 : w.cell? ⟨bx, 0, none⟩ = some (.slice (some ⟨px, ox, none⟩) lx cx)) (b2 : w.cell? ⟨by', 0, none⟩ = some (.slice (some ⟨py, oy, none⟩) ly cy)) (b3 : w.cell? ⟨bz, 0, none⟩ = some (.slice (some ⟨pz, oz, none⟩) lz cz))
   (x0 : w.cell? ⟨px, ox, none⟩ = some (.int .i64 x)) (y0 : w.cell? ⟨py, oy + k, none⟩ = some (.int .i64 y)) (z0 : w.cell? ⟨pz, oz + k, none⟩ = some (.int .i64 z)) (a0 : Apart M B v bb) (a1 : Apart M B v bx) (a2 : Apart M B v by') (a3 : Apart M B v bz) (a4 : Apart M B v px) (a5 : Apart M B v py) (a6 : Apart M B v pz) :
   Calls Tryz.prog 102 #[.int .i64 k, .pointer (some ⟨bb, 0, none⟩), .pointer (some ⟨bx, 0, none⟩), .pointer (some ⟨by', 0, none⟩), .pointer (some ⟨bz, 0, none⟩)] w (Made w base Pb M B v n (chooseG n x y z ps)) := by
 have HC := hide (fun (w1 : World) (hb : Bs w1 base Pb M B v n ps) => choose_any hb hl hx hy hz)
 have HH := hide h
 have HA := hide (And.intro a0 (And.intro a1 (And.intro a2 (And.intro a3 (And.intro a4 (And.intro a5 a6))))))
 have hlx' : (0 : Int) < (lx : Int) := by omega
 have hky' : (k : Int) < (ly : Int) := by omega
 have hkz' : (k : Int) < (lz : Int) := by omega
 unfold Made at *
 generalize chooseG n x y z ps = R at *
 obtain ⟨L, qs⟩ := R
 simp only at HC ⊢
 clear h hx hy hz a0 a1 a2 a3 a4 a5 a6 hky hkz
 go_enter Tryz.func102, Tryz.ntmps102
 go_wp2_with fail
 go_region_held3 (fun w' => w'.cell? ⟨bb, 0, none⟩ = some (.pointer (some ⟨Pb, 0, none⟩)) ∧ w'.cell? ⟨bx, 0, none⟩ = some (.slice (some ⟨px, ox, none⟩) lx cx) ∧ w'.cell? ⟨by', 0, none⟩ = some (.slice (some ⟨py, oy, none⟩) ly cy) ∧ w'.cell? ⟨bz, 0, none⟩ = some (.slice (some ⟨pz, oz, none⟩) lz cz) ∧ w'.cell? ⟨px, ox, none⟩ = some (.int .i64 x) ∧ w'.cell? ⟨py, oy + k, none⟩ = some (.int .i64 y) ∧ w'.cell? ⟨pz, oz + k, none⟩ = some (.int .i64 z))
   (first | exact ⟨b0, b1, b2, b3, x0, y0, z0⟩ | exact ⟨hgn.cell b0 HA.out.1, hgn.cell b1 HA.out.2.1, hgn.cell b2 HA.out.2.2.1, hgn.cell b3 HA.out.2.2.2.1, hgn.cell x0 HA.out.2.2.2.2.1, hgn.cell y0 HA.out.2.2.2.2.2.1, hgn.cell z0 HA.out.2.2.2.2.2.2⟩ | go_keep)
   ((go_at_call 103; with_reducible refine (HC.out _ (HH.out.later (Below.refl _ _).drew)).mono ?_; rintro e w1 ⟨v1, rfl, hbs, hgn⟩))
 have HR := hide (And.intro hbs ((gon_quiet (Below.refl _ _).drew (Below.refl _ _).drew).trans hgn))
 clear hbs hgn
 go_wp2
 go_ret
 exact ⟨v1, rfl, HR.out.1, HR.out.2⟩
end Go.Proofs.YtabnimgpednhjabGreat.Gg
