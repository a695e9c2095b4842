import Derived.Test.YtabnimgpednhjabGreatDnM
namespace Go.Proofs.YtabnimgpednhjabGreat.Gg
open Go.RowKit Go.Maps Go.WideMaps
set_option maxRecDepth 100000
theorem LA.cellG {w wr : World} {base M B : Nat} {v v' : Value} {g off : Nat} {l : List Int} (h : LA w M B v (some ⟨g, off, none⟩) l) (hg : Gon base M B w v wr v') {k : Nat} (hk : k < l.length) :
   wr.cell? ⟨g, off + k, none⟩ = some (.int .i64 (l.getD k 0)) ∧ Apart M B v' g := by
 have h1 := h.gon hg
 obtain ⟨g', off', hp, hc⟩ := h1.1 (by omega)
 cases hp
 refine ⟨?_, h1.2 _ _ rfl (by omega)⟩
 rw [hc k hk, List.getD, List.getElem?_eq_getElem hk]
 rfl
theorem Gon.ap {base M B : Nat} {w wr : World} {v v' : Value} (hg : Gon base M B w v wr v') {q : Addr} {x : Value} (hq : w.cell? q = some x) (ha : Apart M B v q.block) : Apart M B v' q.block := (hg.far _ (World.block_lt_of_cell? _ _ hq) ha).2
def rowS (n : Nat) (xs : List Int) (q d : Int) : Nat → Gr → Int × Gr := fun k ps => bothG n q (atL xs (k - d)) ps
theorem row_does {n len : Nat} {ps : Gr} (hg : chkE n ps = 0) {xs : List Int} {q d : Int} (hl : ps.length + len < 1000000) (hvx : Vals n ps xs) (hq : Val n ps q) :
   ∀ k, k ≤ len → DoesL n (1 * k) ps ((runS (plainS (rowS n xs q d)) () ps k).1, (runS (plainS (rowS n xs q d)) () ps k).2.2) (fun bs => (List.range k).map fun i => sem ps bs q && sem ps bs (atL xs ((i : Nat) - d))) :=
 plain_does (c := 1) (len := len) hg (rowS n xs q d) (fun i bs => sem ps bs q && sem ps bs (atL xs ((i : Nat) - d))) (fun k qs hk hq' => by
   have l1 := hq'.len.2
   have hh := both_does hq'.good (by omega) (hq'.val hq) (hq'.val (atL_val hvx (k - d)))
   exact ⟨hh.ext, hh.val, fun bs hb => (hh.tells bs hb).trans (by rw [hq'.same bs hb _ hq, hq'.same bs hb _ (atL_val hvx _)])⟩)
set_option maxHeartbeats 4000000 in
theorem row_any {w : World} {base Pb M B : Nat} {v : Value} {n : Nat} {ps : Gr} (h : Bs w base Pb M B v n ps) {xs : List Int} {px : Option Addr} {bb bq bx bd cx len : Nat} {q d : Int} (hn : len ≤ 8) (hl : ps.length + len < 1000000)
   (hvx : Vals n ps xs) (hq : Val n ps q) (hd0 : -1000 ≤ d) (hd1 : d ≤ 1000) (b0 : w.cell? ⟨bb, 0, none⟩ = some (.pointer (some ⟨Pb, 0, none⟩))) (b1 : w.cell? ⟨bq, 0, none⟩ = some (.int .i64 q)) (b2 : w.cell? ⟨bx, 0, none⟩ = some (.slice px xs.length cx)) (b3 : w.cell? ⟨bd, 0, none⟩ = some (.int .i64 d))
   (hX : LA w M B v px xs) (a0 : Apart M B v bb) (a1 : Apart M B v bq) (a2 : Apart M B v bx) (a3 : Apart M B v bd) :
   Calls Tryz.prog 56 #[.int .i64 len, .func (.func 132) #[] #[.pointer (some ⟨bb, 0, none⟩), .pointer (some ⟨bq, 0, none⟩), .pointer (some ⟨bx, 0, none⟩), .pointer (some ⟨bd, 0, none⟩)]] w
     (MadeL w base Pb M B v n len ((runS (plainS (rowS n xs q d)) () ps len).1, (runS (plainS (rowS n xs q d)) () ps len).2.2)) := by
 have hd := row_does (len := len) (d := d) h.good hl hvx hq
 refine plain4_any h 132 _ _ _ _ enter132 (rowS n xs q d) (by omega) (fun k hk wr v' hbs hgn => ?_)
 have e1 := (hd k (by omega)).ext
 have l1 : ((runS (plainS (rowS n xs q d)) () ps k).2.2).length ≤ ps.length + 1 * k := e1.len.2
 exact op132_any hbs (by omega) (e1.val hq) (e1.vals hvx) (by omega) hd0 hd1 (hgn.cell b0 a0) (hgn.cell b1 a1) (hgn.cell b2 a2) (hgn.cell b3 a3) (hX.gon hgn).1 (hgn.ap b0 a0) (hgn.ap b1 a1) (hgn.ap b2 a2) (hgn.ap b3 a3)
def moveS (n : Nat) (xs : List Int) (q d : Int) : Nat → Gr → Int × Gr := fun k ps => chooseG n q (atL xs (k - d)) (xs.getD k 0) ps
theorem move_does {n : Nat} {ps : Gr} (hg : chkE n ps = 0) {xs : List Int} {q d : Int} (hl : ps.length + 3 * xs.length < 1000000) (hvx : Vals n ps xs) (hq : Val n ps q) :
   ∀ k, k ≤ xs.length → DoesL n (3 * k) ps ((runS (plainS (moveS n xs q d)) () ps k).1, (runS (plainS (moveS n xs q d)) () ps k).2.2) (fun bs => (List.range k).map fun i => if sem ps bs q then sem ps bs (atL xs ((i : Nat) - d)) else sem ps bs (xs.getD i 0)) :=
 plain_does (c := 3) (len := xs.length) hg (moveS n xs q d) (fun i bs => if sem ps bs q then sem ps bs (atL xs ((i : Nat) - d)) else sem ps bs (xs.getD i 0)) (fun k qs hk hq' => by
   have l1 := hq'.len.2
   have vx := getD_val hvx hk
   have hh := choose_does hq'.good (by omega) (hq'.val hq) (hq'.val (atL_val hvx (k - d))) (hq'.val vx)
   exact ⟨hh.ext, hh.val, fun bs hb => (hh.tells bs hb).trans (by rw [hq'.same bs hb _ hq, hq'.same bs hb _ (atL_val hvx _), hq'.same bs hb _ vx])⟩)
set_option maxHeartbeats 4000000 in
theorem move_any {w : World} {base Pb M B : Nat} {v : Value} {n : Nat} {ps : Gr} (h : Bs w base Pb M B v n ps) {xs : List Int} {px : Option Addr} {bb bq bx bd cx : Nat} {q d : Int} (hn : xs.length ≤ 8) (hl : ps.length + 3 * xs.length < 1000000)
   (hvx : Vals n ps xs) (hq : Val n ps q) (hd0 : -1000 ≤ d) (hd1 : d ≤ 1000) (b0 : w.cell? ⟨bb, 0, none⟩ = some (.pointer (some ⟨Pb, 0, none⟩))) (b1 : w.cell? ⟨bq, 0, none⟩ = some (.int .i64 q)) (b2 : w.cell? ⟨bx, 0, none⟩ = some (.slice px xs.length cx)) (b3 : w.cell? ⟨bd, 0, none⟩ = some (.int .i64 d))
   (hX : LA w M B v px xs) (a0 : Apart M B v bb) (a1 : Apart M B v bq) (a2 : Apart M B v bx) (a3 : Apart M B v bd) :
   Calls Tryz.prog 56 #[.int .i64 xs.length, .func (.func 135) #[] #[.pointer (some ⟨bb, 0, none⟩), .pointer (some ⟨bq, 0, none⟩), .pointer (some ⟨bx, 0, none⟩), .pointer (some ⟨bd, 0, none⟩)]] w
     (MadeL w base Pb M B v n xs.length ((runS (plainS (moveS n xs q d)) () ps xs.length).1, (runS (plainS (moveS n xs q d)) () ps xs.length).2.2)) := by
 have hd := move_does (d := d) h.good hl hvx hq
 refine plain4_any h 135 _ _ _ _ enter135 (moveS n xs q d) (by omega) (fun k hk wr v' hbs hgn => ?_)
 have e1 := (hd k (by omega)).ext
 have l1 : ((runS (plainS (moveS n xs q d)) () ps k).2.2).length ≤ ps.length + 3 * k := e1.len.2
 obtain ⟨gx, ox, rfl, _⟩ := hX.1 (by omega)
 obtain ⟨c1, c2⟩ := hX.cellG hgn hk
 exact op135_any hbs (by omega) (e1.val hq) (e1.vals hvx) (e1.val (getD_val hvx hk)) (by omega) hk hd0 hd1 (hgn.cell b0 a0) (hgn.cell b1 a1) (hgn.cell b2 a2) (hgn.cell b3 a3) c1 (hX.gon hgn).1 (hgn.ap b0 a0) (hgn.ap b1 a1) (hgn.ap b2 a2) (hgn.ap b3 a3) c2
def iteS (n : Nat) (x : Int) (ys zs : List Int) : Nat → Gr → Int × Gr := fun k ps => chooseG n x (ys.getD k 0) (zs.getD k 0) ps
theorem ite_does {n len : Nat} {ps : Gr} (hg : chkE n ps = 0) {ys zs : List Int} {x : Int} (hly : len ≤ ys.length) (hlz : len ≤ zs.length) (hl : ps.length + 3 * len < 1000000) (hx : Val n ps x) (hvy : Vals n ps ys) (hvz : Vals n ps zs) :
   ∀ k, k ≤ len → DoesL n (3 * k) ps ((runS (plainS (iteS n x ys zs)) () ps k).1, (runS (plainS (iteS n x ys zs)) () ps k).2.2) (fun bs => (List.range k).map fun i => if sem ps bs x then sem ps bs (ys.getD i 0) else sem ps bs (zs.getD i 0)) :=
 plain_does (c := 3) (len := len) hg (iteS n x ys zs) (fun i bs => if sem ps bs x then sem ps bs (ys.getD i 0) else sem ps bs (zs.getD i 0)) (fun k qs hk hq' => by
   have l1 := hq'.len.2
   have vy := getD_val hvy (show k < ys.length by omega)
   have vz := getD_val hvz (show k < zs.length by omega)
   have hh := choose_does hq'.good (by omega) (hq'.val hx) (hq'.val vy) (hq'.val vz)
   exact ⟨hh.ext, hh.val, fun bs hb => (hh.tells bs hb).trans (by rw [hq'.same bs hb _ hx, hq'.same bs hb _ vy, hq'.same bs hb _ vz])⟩)
set_option maxHeartbeats 4000000 in
theorem ite_any {w : World} {base Pb M B : Nat} {v : Value} {n : Nat} {ps : Gr} (h : Bs w base Pb M B v n ps) {xs ys zs : List Int} {px py pz : Option Addr} {bb bx by' bz cx cy cz len : Nat} (hlx : 0 < xs.length) (hly : len ≤ ys.length) (hlz : len ≤ zs.length) (hn : len ≤ 8) (hl : ps.length + 3 * len < 1000000)
   (hvx : Vals n ps xs) (hvy : Vals n ps ys) (hvz : Vals n ps zs) (b0 : w.cell? ⟨bb, 0, none⟩ = some (.pointer (some ⟨Pb, 0, none⟩))) (b1 : w.cell? ⟨bx, 0, none⟩ = some (.slice px xs.length cx)) (b2 : w.cell? ⟨by', 0, none⟩ = some (.slice py ys.length cy)) (b3 : w.cell? ⟨bz, 0, none⟩ = some (.slice pz zs.length cz))
   (hX : LA w M B v px xs) (hY : LA w M B v py ys) (hZ : LA w M B v pz zs) (a0 : Apart M B v bb) (a1 : Apart M B v bx) (a2 : Apart M B v by') (a3 : Apart M B v bz) :
   Calls Tryz.prog 56 #[.int .i64 len, .func (.func 102) #[] #[.pointer (some ⟨bb, 0, none⟩), .pointer (some ⟨bx, 0, none⟩), .pointer (some ⟨by', 0, none⟩), .pointer (some ⟨bz, 0, none⟩)]] w
     (MadeL w base Pb M B v n len ((runS (plainS (iteS n (xs.getD 0 0) ys zs)) () ps len).1, (runS (plainS (iteS n (xs.getD 0 0) ys zs)) () ps len).2.2)) := by
 have vx := getD_val hvx hlx
 have hd := ite_does (len := len) h.good hly hlz hl vx hvy hvz
 refine plain4_any h 102 _ _ _ _ enter102 (iteS n (xs.getD 0 0) ys zs) (by omega) (fun k hk wr v' hbs hgn => ?_)
 have e1 := (hd k (by omega)).ext
 have l1 : ((runS (plainS (iteS n (xs.getD 0 0) ys zs)) () ps k).2.2).length ≤ ps.length + 3 * k := e1.len.2
 obtain ⟨gx, ox, rfl, _⟩ := hX.1 hlx
 obtain ⟨gy, oy, rfl, _⟩ := hY.1 (by omega)
 obtain ⟨gz, oz, rfl, _⟩ := hZ.1 (by omega)
 obtain ⟨x1, x2⟩ := hX.cellG hgn hlx
 obtain ⟨y1, y2⟩ := hY.cellG hgn (show k < ys.length by omega)
 obtain ⟨z1, z2⟩ := hZ.cellG hgn (show k < zs.length by omega)
 rw [Nat.add_zero] at x1
 exact op102_any hbs (by omega) (e1.val vx) (e1.val (getD_val hvy (by omega))) (e1.val (getD_val hvz (by omega))) hlx (show k < ys.length by omega) (show k < zs.length by omega) (hgn.cell b0 a0) (hgn.cell b1 a1) (hgn.cell b2 a2) (hgn.cell b3 a3) x1 y1 z1 (hgn.ap b0 a0) (hgn.ap b1 a1) (hgn.ap b2 a2) (hgn.ap b3 a3) x2 y2 z2
end Go.Proofs.YtabnimgpednhjabGreat.Gg

namespace Go.Proofs.YtabnimgpednhjabGreat.Gg
open Go.RowKit Go.Maps Go.WideMaps
set_option maxRecDepth 100000
def rowL (n : Nat) (xs : List Int) (q d : Int) (ps : Gr) : List Int × Gr := ((runS (plainS (rowS n xs q d)) () ps xs.length).1, (runS (plainS (rowS n xs q d)) () ps xs.length).2.2)
def prodL (n : Nat) (xs ys : List Int) (ps : Gr) : Nat → List Int × Gr
 | 0 => (bitsC 0 xs.length, ps)
 | k + 1 =>
   let r := prodL n xs ys ps k
   let row := rowL n xs (ys.getD k 0) k r.2
   let s := sumL n r.1 row.1 0 row.2
   (s.1, s.2.2)
theorem bitsC_no (len : Nat) : bitsC 0 len = List.replicate len 0 := by
 unfold bitsC
 rw [List.eq_replicate_iff]
 refine ⟨by simp, fun b hb => ?_⟩
 obtain ⟨i, _, rfl⟩ := List.mem_map.1 hb
 rw [Int.zero_ediv]; rfl
theorem prod_ok {n : Nat} {ps : Gr} (hg : chkE n ps = 0) {xs ys : List Int} (hn : xs.length ≤ 8) (hny : ys.length ≤ 8) (hl : ps.length + 1000 < 1000000) (hvx : Vals n ps xs) (hvy : Vals n ps ys) :
   ∀ k, k ≤ ys.length → Ext n (80 * k) ps (prodL n xs ys ps k).2 ∧ Vals n (prodL n xs ys ps k).2 (prodL n xs ys ps k).1 ∧ (prodL n xs ys ps k).1.length = xs.length := by
 intro k
 induction k with
 | zero => intro _; exact ⟨Ext.refl hg, fun x hx => by rw [show (prodL n xs ys ps 0).1 = bitsC 0 xs.length from rfl, bitsC_no] at hx; rw [List.eq_of_mem_replicate hx]; exact val_no _ _, by simp [prodL, bitsC]⟩
 | succ k ih =>
   intro hk
   obtain ⟨i1, i2, i3⟩ := ih (by omega)
   have l1 := i1.len.2
   have vy := getD_val hvy (show k < ys.length by omega)
   have hr := row_does (len := xs.length) (d := k) i1.good (by omega) (i1.vals hvx) (i1.val vy) xs.length (Nat.le_refl _)
   have l2 := hr.ext.len.2
   simp only at l2
   obtain ⟨s1, s2, s3, _⟩ := sum_does (len := (prodL n xs ys ps k).1.length) hr.ext.good (ys := (rowL n xs (ys.getD k 0) k (prodL n xs ys ps k).2).1) (c := 0) (Nat.le_refl _) (by rw [i3]; exact Nat.le_of_eq (runS_len _ _ _ _).symm) (by simp only; omega) (hr.ext.vals i2) hr.vals (val_no _ _) _ (Nat.le_refl _)
   refine ⟨((i1.trans hr.ext).trans s1).more (by omega), s2, ?_⟩
   show (sumL n _ _ _ _).1.length = _
   rw [sumL_len, i3]
theorem rowL_len (n : Nat) (xs : List Int) (q d : Int) (ps : Gr) : (rowL n xs q d ps).1.length = xs.length := runS_len _ _ _ _
def MadeW (w : World) (base Pb M B : Nat) (v : Value) (n len : Nat) (r : List Int × Gr) (e : Ending) (w' : World) : Prop :=
 ∃ v' G, e = .returned (.slice (some ⟨G, 0, none⟩) len len) ∧ w.heap.size ≤ G ∧ IRow w' G r.1 ∧ Bs w' base Pb M B v' n r.2 ∧ Gon base M B w v w' v' ∧ Apart M B v' G
set_option maxHeartbeats 4000000 in
theorem product_any {w : World} {base Pb M B : Nat} {v : Value} {n : Nat} {ps : Gr} (h : Bs w base Pb M B v n ps) {xs ys : List Int} {px py : Option Addr} {cx cy : Nat} (hn : xs.length ≤ 8) (hny : ys.length ≤ 8) (hl : ps.length + 1000 < 1000000)
   (hvx : Vals n ps xs) (hvy : Vals n ps ys) (hX : LA w M B v px xs) (hY : LA w M B v py ys) :
   Calls Tryz.prog 125 #[.pointer (some ⟨Pb, 0, none⟩), .slice px xs.length cx, .slice py ys.length cy] w (MadeW w base Pb M B v n xs.length (prodL n xs ys ps ys.length)) := by
 have hb2 : Below w.heap.size w ((w.alloc (.cells #[.pointer (some ⟨Pb, 0, none⟩)] 64)).alloc (.cells #[.slice px xs.length cx] 25)) := bal (bal (Below.refl _ _) _) _
 have HC := hide (constant_any 0 xs.length (by omega) (by omega) hn ((w.alloc (.cells #[.pointer (some ⟨Pb, 0, none⟩)] 64)).alloc (.cells #[.slice px xs.length cx] 25)))
 have b0 : ((w.alloc (.cells #[.pointer (some ⟨Pb, 0, none⟩)] 64)).alloc (.cells #[.slice px xs.length cx] 25)).cell? ⟨w.heap.size, 0, none⟩ = some (.pointer (some ⟨Pb, 0, none⟩)) := by simp [go_sem]
 have b1 : ((w.alloc (.cells #[.pointer (some ⟨Pb, 0, none⟩)] 64)).alloc (.cells #[.slice px xs.length cx] 25)).cell? ⟨w.heap.size + 1, 0, none⟩ = some (.slice px xs.length cx) := by simp [go_sem]
 have HI := hide (And.intro b0 (And.intro b1 (And.intro (h.bm.new (g := w.heap.size) (Nat.le_refl _)) (And.intro (h.bm.new (g := w.heap.size + 1) (by omega)) (And.intro (h.later hb2) (And.intro (hX.later hb2) (And.intro (hY.later hb2) (And.intro hb2 h.hb))))))))
 have HD := hide (prod_ok h.good hn hny hl hvx hvy)
 have HV := hide (And.intro hvx hvy)
 clear h hX hY hvx hvy b0 b1 hb2
 unfold MadeW
 go_enter Tryz.func125, Tryz.ntmps125
 go_wp2_with fail
 generalize ((w.alloc (.cells #[.pointer (some ⟨Pb, 0, none⟩)] 64)).alloc (.cells #[.slice px xs.length cx] 25)) = W2 at *
 refine HC.out.mono ?_
 rintro e w1 ⟨G0, rfl, hG0, hr0, hb0⟩
 have HS0 := hide (And.intro hG0 (And.intro hr0 hb0))
 clear hG0 hr0 hb0 HC
 go_wp2_with fail
 go_loopw [7, 16] (fun t i wr => ∃ (k : Nat) (v' : Value) (G : Nat), k ≤ ys.length ∧ i = .int .i64 k ∧ t = .slice (some ⟨G, 0, none⟩) xs.length xs.length ∧ Hid (w.heap.size ≤ G) ∧ Hid (Bs wr base Pb M B v' n (prodL n xs ys ps k).2) ∧ Hid (Gon base M B W2 v wr v') ∧ Hid (IRow wr G (prodL n xs ys ps k).1) ∧ Hid (Apart M B v' G)) (fun _ i _ => ys.length - (intOf i).toNat)
 case atStart =>
   obtain ⟨_, _, _, _, i1, _, _, i2, i3⟩ := HI.out
   obtain ⟨j1, j2, j3⟩ := HS0.out
   exact ⟨0, v, G0, Nat.zero_le _, rfl, rfl, Nat.le_trans i2.size j1, i1.later j3, gon_quiet (j3.mono (Nat.le_trans i3 i2.size)) j3, j2, i1.bm.new j1⟩
 case round =>
   obtain ⟨k, v', G, hk, rfl, rfl, HG, HB, HN, HR, HA⟩ := hrel
   by_cases hlt : k < ys.length
   · obtain ⟨c0, c1, a0, a1, _, hx2, hy2, _, hbs0⟩ := HI.out
     obtain ⟨e1, e2, e3⟩ := HD.out k hk
     have l1 := e1.len.2
     have b0 := HN.out.cell c0 a0
     have b1 := HN.out.cell c1 a1
     have ab0 := HN.out.ap c0 a0
     have ab1 := HN.out.ap c1 a1
     have hx := hx2.gon HN.out
     have hy := hy2.gon HN.out
     obtain ⟨gy, oy, rfl, hcy⟩ := hy.1 (by omega)
     have y0 := hcy k hlt
     have vy := HV.out.2 _ (List.getElem_mem hlt)
     have hr : DoesL n (1 * xs.length) (prodL n xs ys ps k).2 (rowL n xs ys[k] k (prodL n xs ys ps k).2) _ := row_does (len := xs.length) (d := k) e1.good (by omega) (e1.vals HV.out.1) (e1.val vy) xs.length (Nat.le_refl _)
     have l2 := hr.ext.len.2
     have HROW := hide (fun (wq : World) (hb : Below wr.heap.size wr wq) (c1 : wq.cell? ⟨wr.heap.size, 0, none⟩ = some (.int .i64 k)) (c2 : wq.cell? ⟨wr.heap.size + 1, 0, none⟩ = some (.int .i64 ys[k])) =>
       row_any (HB.out.later hb) (px := px) (cx := cx) (len := xs.length) hn (by omega) (e1.vals HV.out.1) (e1.val vy) (by omega) (by omega) (cell_later hb b0) c2 (cell_later hb b1) c1 (hx.later hb) ab0 (HB.out.bm.new (g := wr.heap.size + 1) (by omega)) ab1 (HB.out.bm.new (g := wr.heap.size) (Nat.le_refl _)))
     have HSUM := hide (fun (ws : World) (vs : Value) (G2 : Nat) (hb : Bs ws base Pb M B vs n (rowL n xs ys[k] k (prodL n xs ys ps k).2).2) (h1 : LA ws M B vs (some ⟨G, 0, none⟩) (prodL n xs ys ps k).1) (h2 : LA ws M B vs (some ⟨G2, 0, none⟩) (rowL n xs ys[k] k (prodL n xs ys ps k).2).1) =>
       sum_any hb (cx := xs.length) (cy := xs.length) (c := 0) (by rw [e3, rowL_len]; exact Nat.le_refl _) (by rw [e3]; exact hn) (by rw [e3]; omega) (hr.ext.vals e2) hr.vals (val_no _ _) h1 h2)
     have HE : Hid (prodL n xs ys ps (k + 1) = ((sumL n (prodL n xs ys ps k).1 (rowL n xs ys[k] k (prodL n xs ys ps k).2).1 0 (rowL n xs ys[k] k (prodL n xs ys ps k).2).2).1, (sumL n (prodL n xs ys ps k).1 (rowL n xs ys[k] k (prodL n xs ys ps k).2).1 0 (rowL n xs ys[k] k (prodL n xs ys ps k).2).2).2.2)) := by rw [Hid, prodL, getD_at hlt]
     have hki : (k : Int) < (ys.length : Int) := by omega
     have HT := hide (la_row HR.out HA.out)
     have hwb := HB.out.hb
     have HBB := hide (And.intro b0 (And.intro ab0 hwb))
     simp only [e3, rowL_len] at HSUM
     clear hcy hx hy vy hr l1 l2 e1 e2 e3 HD HV hx2 hy2 hbs0 c0 c1 a0 a1 ab0 ab1 hwb HS0
     generalize ys[k] = q at *
     have bb1 : ((wr.alloc (.cells #[.int .i64 k] 3)).alloc (.cells #[.int .i64 q] 3)).cell? ⟨w.heap.size + 1, 0, none⟩ = some (.slice px xs.length cx) := cell_later (bal (bal (Below.refl _ _) _) _) b1
     unfold MadeL at HROW
     unfold MadeS at HSUM
     go_wp2_with fail
     have HB2 : Hid (Below wr.heap.size wr ((wr.alloc (.cells #[.int .i64 k] 3)).alloc (.cells #[.int .i64 q] 3))) := hide (bal (bal (Below.refl _ _) _) _)
     have HRW := hide (HROW.out _ HB2.out (by simp [go_sem]) (by simp [go_sem]))
     refine HRW.out.mono ?_
     rintro e w3 ⟨v3, rfl, hrow3, hbs3, hgn3, hap3⟩
     have HG3 : Hid (Gon base M B wr v' w3 v3) := hide ((gon_quiet (HB2.out.mono HBB.out.2.2) HB2.out).trans hgn3)
     have b03 := HG3.out.cell HBB.out.1 HBB.out.2.1
     have HSM := hide (HSUM.out w3 v3 _ hbs3 (HT.out.gon HG3.out) (la_row hrow3 hap3))
     have HL := hide (Nat.le_trans HI.out.2.2.2.2.2.2.2.1.size (Nat.le_trans HN.out.bel.size HG3.out.bel.size))
     clear HRW HROW HSUM hrow3 hbs3 hgn3 hap3 HT HBB HB2 b0 b1 bb1 y0 HB HR HA HG
     generalize ((wr.alloc (.cells #[.int .i64 k] 3)).alloc (.cells #[.int .i64 q] 3)).heap.size = G3 at *
     go_wp2_with fail
     refine HSM.out.mono ?_
     rintro e w4 ⟨v4, G4, rfl, hG4, hrow4, hbs4, hgn4, hap4⟩
     have HF := hide (And.intro (Nat.le_trans HL.out hG4) (And.intro hrow4 (And.intro hbs4 (And.intro (HN.out.trans (HG3.out.trans hgn4)) hap4))))
     clear HSM HL hG4 hrow4 hbs4 hgn4 hap4 HN HG3 b03
     go_wp2_with fail
     go_roundw
     case rel => exact ⟨k + 1, v4, G4, by omega, by go_num, rfl, HF.out.1, by rw [HE.out]; exact HF.out.2.2.1, HF.out.2.2.2.1, by rw [HE.out]; exact HF.out.2.1, HF.out.2.2.2.2⟩
     case measure => simp [intOf]; omega
   · obtain rfl : k = ys.length := by omega
     go_wp2
     go_ret
     exact ⟨v', G, rfl, HG.out, HR.out, HB.out, (gon_quiet (HI.out.2.2.2.2.2.2.2.1.mono HI.out.2.2.2.2.2.2.2.2) HI.out.2.2.2.2.2.2.2.1).trans HN.out, HA.out⟩
end Go.Proofs.YtabnimgpednhjabGreat.Gg

namespace Go.Proofs.YtabnimgpednhjabGreat.Gg
open Go.RowKit Go.Maps Go.WideMaps
set_option maxRecDepth 100000
def moveL (n : Nat) (xs : List Int) (q d : Int) (ps : Gr) : List Int × Gr := ((runS (plainS (moveS n xs q d)) () ps xs.length).1, (runS (plainS (moveS n xs q d)) () ps xs.length).2.2)
theorem moveL_len (n : Nat) (xs : List Int) (q d : Int) (ps : Gr) : (moveL n xs q d ps).1.length = xs.length := runS_len _ _ _ _
def shiftL (n : Nat) (xs ys : List Int) (way : Int) (ps : Gr) : Nat → List Int × Gr
 | 0 => (xs, ps)
 | k + 1 => moveL n (shiftL n xs ys way ps k).1 (ys.getD k 0) (way * 2 ^ k) (shiftL n xs ys way ps k).2
theorem shift_ok {n : Nat} {ps : Gr} (hg : chkE n ps = 0) {xs ys : List Int} {way : Int} (hn : xs.length ≤ 8) (hny : ys.length ≤ 8) (hl : ps.length + 1000 < 1000000) (hvx : Vals n ps xs) (hvy : Vals n ps ys) :
   ∀ k, k ≤ ys.length → Ext n (24 * k) ps (shiftL n xs ys way ps k).2 ∧ Vals n (shiftL n xs ys way ps k).2 (shiftL n xs ys way ps k).1 ∧ (shiftL n xs ys way ps k).1.length = xs.length := by
 intro k
 induction k with
 | zero => intro _; exact ⟨Ext.refl hg, hvx, rfl⟩
 | succ k ih =>
   intro hk
   obtain ⟨i1, i2, i3⟩ := ih (by omega)
   have l1 := i1.len.2
   have vy := getD_val hvy (show k < ys.length by omega)
   have hr : DoesL n (3 * (shiftL n xs ys way ps k).1.length) (shiftL n xs ys way ps k).2 (moveL n (shiftL n xs ys way ps k).1 (ys.getD k 0) (way * 2 ^ k) (shiftL n xs ys way ps k).2) _ := move_does (d := way * 2 ^ k) i1.good (by omega) i2 (i1.val vy) _ (Nat.le_refl _)
   exact ⟨(i1.trans hr.ext).more (by omega), hr.vals, by rw [shiftL, moveL_len, i3]⟩
def Fresh (w : World) (px p : Option Addr) : Prop := ∀ g off, p = some ⟨g, off, none⟩ → w.heap.size ≤ g ∨ ∃ off', px = some ⟨g, off', none⟩
theorem fresh_new {w : World} {px : Option Addr} {G off : Nat} (h : w.heap.size ≤ G) : Fresh w px (some ⟨G, off, none⟩) := fun _ _ e => by cases e; exact Or.inl h
theorem fresh_same {w : World} {p : Option Addr} : Fresh w p p := fun _ off e => Or.inr ⟨off, e⟩
def MadeP (w : World) (base Pb M B : Nat) (v : Value) (n len : Nat) (px : Option Addr) (r : List Int × Gr) (e : Ending) (w' : World) : Prop :=
 ∃ v' p cap, e = .returned (.slice p len cap) ∧ ((len ≤ cap ∧ cap ≤ maxLen) ∧ Fresh w px p) ∧ LA w' M B v' p r.1 ∧ Bs w' base Pb M B v' n r.2 ∧ Gon base M B w v w' v'
set_option maxHeartbeats 4000000 in
theorem shift_any {w : World} {base Pb M B : Nat} {v : Value} {n : Nat} {ps : Gr} (h : Bs w base Pb M B v n ps) {xs ys : List Int} {px py : Option Addr} {cx cy : Nat} {way : Int} (hway : way = 1 ∨ way = -1) (hn : xs.length ≤ 8) (hny : ys.length ≤ 8) (hl : ps.length + 1000 < 1000000)
   (hvx : Vals n ps xs) (hvy : Vals n ps ys) (hX : LA w M B v px xs) (hY : LA w M B v py ys) (hcx : xs.length ≤ cx ∧ cx ≤ maxLen) :
   Calls Tryz.prog 127 #[.pointer (some ⟨Pb, 0, none⟩), .slice px xs.length cx, .slice py ys.length cy, .int .i64 way] w (MadeP w base Pb M B v n xs.length px (shiftL n xs ys way ps ys.length)) := by
 have hb2 : Below w.heap.size w (w.alloc (.cells #[.pointer (some ⟨Pb, 0, none⟩)] 64)) := bal (Below.refl _ _) _
 have b0 : (w.alloc (.cells #[.pointer (some ⟨Pb, 0, none⟩)] 64)).cell? ⟨w.heap.size, 0, none⟩ = some (.pointer (some ⟨Pb, 0, none⟩)) := by simp [go_sem]
 have HI := hide (And.intro b0 (And.intro (h.bm.new (g := w.heap.size) (Nat.le_refl _)) (And.intro (h.later hb2) (And.intro (hX.later hb2) (And.intro (hY.later hb2) (And.intro hb2 h.hb))))))
 have HD := hide (shift_ok (way := way) h.good hn hny hl hvx hvy)
 have HV := hide (And.intro hvx hvy)
 have HCX := hide hcx
 clear h hX hY hvx hvy b0 hb2 hcx
 unfold MadeP
 go_enter Tryz.func127, Tryz.ntmps127
 go_wp2_with fail
 generalize (w.alloc (.cells #[.pointer (some ⟨Pb, 0, none⟩)] 64)) = W2 at *
 go_loopw [1, 15] (fun t i wr => ∃ (k : Nat) (v' : Value) (p : Option Addr) (cap : Nat), k ≤ ys.length ∧ i = .int .i64 k ∧ t = .slice p xs.length cap ∧ Hid ((xs.length ≤ cap ∧ cap ≤ maxLen) ∧ Fresh w px p) ∧ Hid (Bs wr base Pb M B v' n (shiftL n xs ys way ps k).2) ∧ Hid (Gon base M B W2 v wr v') ∧ Hid (LA wr M B v' p (shiftL n xs ys way ps k).1)) (fun _ i _ => ys.length - (intOf i).toNat)
 case atStart =>
   obtain ⟨_, _, i1, i2, _, _, _⟩ := HI.out
   exact ⟨0, v, px, cx, Nat.zero_le _, rfl, rfl, ⟨HCX.out, fresh_same⟩, i1, Gon.refl, i2⟩
 case round =>
   obtain ⟨k, v', p, cap, hk, rfl, rfl, HCP, HB, HN, HL⟩ := hrel
   by_cases hlt : k < ys.length
   · obtain ⟨c0, a0, _, _, hy2, _, hbs0⟩ := HI.out
     obtain ⟨e1, e2, e3⟩ := HD.out k hk
     have l1 := e1.len.2
     have b0 := HN.out.cell c0 a0
     have ab0 := HN.out.ap c0 a0
     have hy := hy2.gon HN.out
     obtain ⟨gy, oy, rfl, hcy⟩ := hy.1 (by omega)
     have y0 := hcy k hlt
     have vy := HV.out.2 _ (List.getElem_mem hlt)
     have hki : (k : Int) < (ys.length : Int) := by omega
     have hk8 : k < 8 := by omega
     have hwr : IntKind.i64.wrap (way * 2 ^ k) = way * 2 ^ k := by
       have h2 : k = 0 ∨ k = 1 ∨ k = 2 ∨ k = 3 ∨ k = 4 ∨ k = 5 ∨ k = 6 ∨ k = 7 := by omega
       rcases hway with rfl | rfl <;> rcases h2 with rfl | rfl | rfl | rfl | rfl | rfl | rfl | rfl <;> rfl
     have hd : -1000 ≤ way * 2 ^ k ∧ way * 2 ^ k ≤ 1000 := by
       have h2 : k = 0 ∨ k = 1 ∨ k = 2 ∨ k = 3 ∨ k = 4 ∨ k = 5 ∨ k = 6 ∨ k = 7 := by omega
       rcases hway with rfl | rfl <;> rcases h2 with rfl | rfl | rfl | rfl | rfl | rfl | rfl | rfl <;> exact ⟨by decide, by decide⟩
     have HMV := hide (fun (wq : World) (bx bd : Nat) (hb : Below wr.heap.size wr wq) (q0 : wq.cell? ⟨wr.heap.size, 0, none⟩ = some (.int .i64 ys[k])) (q1 : wq.cell? ⟨bx, 0, none⟩ = some (.slice p xs.length cap)) (q2 : wq.cell? ⟨bd, 0, none⟩ = some (.int .i64 (way * 2 ^ k))) (h1 : wr.heap.size ≤ bx) (h2 : wr.heap.size ≤ bd) =>
       move_any (HB.out.later hb) (xs := (shiftL n xs ys way ps k).1) (px := p) (cx := cap) (by omega) (by omega) e2 (e1.val vy) hd.1 hd.2 (cell_later hb b0) q0 (by rw [e3]; exact q1) q2 (HL.out.later hb) ab0 (HB.out.bm.new (g := wr.heap.size) (Nat.le_refl _)) (HB.out.bm.new h1) (HB.out.bm.new h2))
     have HE : Hid (shiftL n xs ys way ps (k + 1) = moveL n (shiftL n xs ys way ps k).1 ys[k] (way * 2 ^ k) (shiftL n xs ys way ps k).2) := by rw [Hid, shiftL, getD_at hlt]
     have HBB := hide HB.out.hb
     unfold MadeL at HMV
     rw [show ((runS (plainS (moveS n (shiftL n xs ys way ps k).1 ys[k] (way * 2 ^ k))) () (shiftL n xs ys way ps k).2 (shiftL n xs ys way ps k).1.length).1, (runS (plainS (moveS n (shiftL n xs ys way ps k).1 ys[k] (way * 2 ^ k))) () (shiftL n xs ys way ps k).2 (shiftL n xs ys way ps k).1.length).2.2) = moveL n (shiftL n xs ys way ps k).1 ys[k] (way * 2 ^ k) (shiftL n xs ys way ps k).2 from rfl] at HMV
     simp only [e3] at HMV
     clear hcy hy vy l1 e1 e2 e3 HD HV hy2 hbs0 c0 a0 ab0 hd hway
     generalize ys[k] = q at *
     go_wp2_with fail
     go_region_held3 (fun _ => True) (trivial) (fail)
     · generalize way * 2 ^ k = D at *
       have HQ : Hid (Below wr.heap.size wr (((wr.alloc (.cells #[.int .i64 q] 3)).alloc (.cells #[.slice p xs.length cap] 25)).alloc (.cells #[.int .i64 D] 3)).drew) := hide (bal (bal (bal (Below.refl _ _) _) _) _).drew
       have q0 : (((wr.alloc (.cells #[.int .i64 q] 3)).alloc (.cells #[.slice p xs.length cap] 25)).alloc (.cells #[.int .i64 D] 3)).drew.cell? ⟨wr.heap.size, 0, none⟩ = some (.int .i64 q) := by simp [go_sem]
       have q1 : (((wr.alloc (.cells #[.int .i64 q] 3)).alloc (.cells #[.slice p xs.length cap] 25)).alloc (.cells #[.int .i64 D] 3)).drew.cell? ⟨wr.heap.size + 1, 0, none⟩ = some (.slice p xs.length cap) := by simp [go_sem]
       have q2 : (((wr.alloc (.cells #[.int .i64 q] 3)).alloc (.cells #[.slice p xs.length cap] 25)).alloc (.cells #[.int .i64 D] 3)).drew.cell? ⟨wr.heap.size + 1 + 1, 0, none⟩ = some (.int .i64 D) := by simp [go_sem]
       generalize (((wr.alloc (.cells #[.int .i64 q] 3)).alloc (.cells #[.slice p xs.length cap] 25)).alloc (.cells #[.int .i64 D] 3)).drew = wq at *
       have HM := hide (HMV.out wq _ _ HQ.out q0 q1 q2 (by omega) (by omega))
       clear HMV q0 q2
       go_wp2_with fail
       refine HM.out.mono ?_
       rintro e w3 ⟨v3, rfl, hrow3, hbs3, hgn3, hap3⟩
       have HF := hide (And.intro hbs3 (And.intro (HN.out.trans ((gon_quiet (HQ.out.mono HBB.out) HQ.out).trans hgn3)) (la_row hrow3 hap3)))
       have HSQ : Hid (w.heap.size ≤ wq.heap.size) := hide (Nat.le_trans HI.out.2.2.2.2.2.1.size (Nat.le_trans HN.out.bel.size HQ.out.size))
       clear HM hrow3 hbs3 hgn3 hap3 HQ q1 HN HBB HB HL b0 y0
       have HSZ : Hid (w.heap.size ≤ wq.heap.size) := HSQ
       clear HSQ
       generalize wq.heap.size = G3 at *
       go_wp2_with fail
       go_roundw
       case rel => exact ⟨k + 1, v3, some ⟨G3, 0, none⟩, xs.length, by omega, by go_num, rfl, ⟨⟨Nat.le_refl _, by unfold maxLen; omega⟩, fresh_new HSZ.out⟩, by rw [HE.out]; exact HF.out.1, HF.out.2.1, by rw [HE.out]; exact HF.out.2.2⟩
       case measure => simp [intOf]; omega
     · generalize way * 2 ^ k = D at *
       have HQ : Hid (Below wr.heap.size wr (((wr.alloc (.cells #[.int .i64 q] 3)).alloc (.cells #[.int .i64 D] 3)).alloc (.cells #[.slice p xs.length cap] 25)).drew) := hide (bal (bal (bal (Below.refl _ _) _) _) _).drew
       have q0 : (((wr.alloc (.cells #[.int .i64 q] 3)).alloc (.cells #[.int .i64 D] 3)).alloc (.cells #[.slice p xs.length cap] 25)).drew.cell? ⟨wr.heap.size, 0, none⟩ = some (.int .i64 q) := by simp [go_sem]
       have q1 : (((wr.alloc (.cells #[.int .i64 q] 3)).alloc (.cells #[.int .i64 D] 3)).alloc (.cells #[.slice p xs.length cap] 25)).drew.cell? ⟨wr.heap.size + 1 + 1, 0, none⟩ = some (.slice p xs.length cap) := by simp [go_sem]
       have q2 : (((wr.alloc (.cells #[.int .i64 q] 3)).alloc (.cells #[.int .i64 D] 3)).alloc (.cells #[.slice p xs.length cap] 25)).drew.cell? ⟨wr.heap.size + 1, 0, none⟩ = some (.int .i64 D) := by simp [go_sem]
       generalize (((wr.alloc (.cells #[.int .i64 q] 3)).alloc (.cells #[.int .i64 D] 3)).alloc (.cells #[.slice p xs.length cap] 25)).drew = wq at *
       have HM := hide (HMV.out wq _ _ HQ.out q0 q1 q2 (by omega) (by omega))
       clear HMV q0 q2
       go_wp2_with fail
       refine HM.out.mono ?_
       rintro e w3 ⟨v3, rfl, hrow3, hbs3, hgn3, hap3⟩
       have HF := hide (And.intro hbs3 (And.intro (HN.out.trans ((gon_quiet (HQ.out.mono HBB.out) HQ.out).trans hgn3)) (la_row hrow3 hap3)))
       have HSQ : Hid (w.heap.size ≤ wq.heap.size) := hide (Nat.le_trans HI.out.2.2.2.2.2.1.size (Nat.le_trans HN.out.bel.size HQ.out.size))
       clear HM hrow3 hbs3 hgn3 hap3 HQ q1 HN HBB HB HL b0 y0
       have HSZ : Hid (w.heap.size ≤ wq.heap.size) := HSQ
       clear HSQ
       generalize wq.heap.size = G3 at *
       go_wp2_with fail
       go_roundw
       case rel => exact ⟨k + 1, v3, some ⟨G3, 0, none⟩, xs.length, by omega, by go_num, rfl, ⟨⟨Nat.le_refl _, by unfold maxLen; omega⟩, fresh_new HSZ.out⟩, by rw [HE.out]; exact HF.out.1, HF.out.2.1, by rw [HE.out]; exact HF.out.2.2⟩
       case measure => simp [intOf]; omega
   · obtain rfl : k = ys.length := by omega
     go_wp2
     go_ret
     exact ⟨v', p, cap, rfl, HCP.out, HL.out, HB.out, (gon_quiet (HI.out.2.2.2.2.2.1.mono HI.out.2.2.2.2.2.2) HI.out.2.2.2.2.2.1).trans HN.out⟩
end Go.Proofs.YtabnimgpednhjabGreat.Gg

namespace Go.Proofs.YtabnimgpednhjabGreat.Gg
open Go.RowKit Go.Maps Go.WideMaps
set_option maxRecDepth 100000
theorem reader_any (fn : FuncId) (f : Nat → Int) (n : Nat) (hn : n ≤ 1000) (l : List Int) (p : Option Addr) (cap b : Nat) (w : World) (hb : w.cell? ⟨b, 0, none⟩ = some (.slice p l.length cap)) (hI : IntsAt w p l)
   (hent : ∀ (args : Array Value) (w : World), (callFunc fn args).run Tryz.prog w = .ok (.enter fn args) w)
   (hop : ∀ k, k < n → ∀ wr : World, wr.cell? ⟨b, 0, none⟩ = some (.slice p l.length cap) → IntsAt wr p l → Calls Tryz.prog fn #[.int .i64 k, .pointer (some ⟨b, 0, none⟩)] wr fun e w' => e = .returned (.int .i64 (f k)) ∧ w' = wr) :
   Calls Tryz.prog 56 #[.int .i64 n, .func (.func fn) #[] #[.pointer (some ⟨b, 0, none⟩)]] w fun e w' => ∃ G, e = .returned (.slice (some ⟨G, 0, none⟩) n n) ∧ w.heap.size ≤ G ∧ IRow w' G ((List.range n).map f) ∧ Below w.heap.size w w' := by
 refine (made_any fn (.pointer (some ⟨b, 0, none⟩)) f n w.heap.size hn (FarL b p l.length)
   (fun _ wr => wr.cell? ⟨b, 0, none⟩ = some (.slice p l.length cap) ∧ IntsAt wr p l) w (Nat.le_refl _) (farL_lt (World.block_lt_of_cell? _ _ hb) hI) ⟨hb, hI⟩
   (fun _ w1 w2 h hk => ⟨cell_block h.1 (hk _ (Or.inl rfl)), ints_block h.2 (fun g hg => hk g (Or.inr hg))⟩) hent
   (fun k hk wr _ h => (hop k hk wr h.1 h.2).mono fun e w' ⟨h1, h2⟩ => by
     subst h2
     exact ⟨h1, h, Below.refl _ _, fun _ _ _ => rfl⟩)).mono ?_
 rintro e w' ⟨G, rfl, hG, hr, _, hbw, _⟩
 exact ⟨G, rfl, hG, hr, hbw⟩
theorem enter133 (args : Array Value) (w : World) : (callFunc 133 args).run Tryz.prog w = .ok (.enter 133 args) w := by kernel_rfl
theorem enter134 (args : Array Value) (w : World) : (callFunc 134 args).run Tryz.prog w = .ok (.enter 134 args) w := by kernel_rfl
theorem enter105 (args : Array Value) (w : World) : (callFunc 105 args).run Tryz.prog w = .ok (.enter 105 args) w := by kernel_rfl
set_option maxHeartbeats 2000000 in
theorem op133_any (l : List Int) (p : Option Addr) (cap b k : Nat) (hk : k ≤ 1000) (w : World) (hb : w.cell? ⟨b, 0, none⟩ = some (.slice p l.length cap)) (hI : IntsAt w p l) :
   Calls Tryz.prog 133 #[.int .i64 k, .pointer (some ⟨b, 0, none⟩)] w fun e w' => e = .returned (.int .i64 (atL l ((k : Int) - 1))) ∧ w' = w := by
 have HA := hide (at_any l p cap ((k : Int) - 1) w hI)
 have hwr := wrap_id (x := (k : Int) - 1) (by omega) (by omega)
 generalize atL l ((k : Int) - 1) = z at *
 clear hI
 go_enter Tryz.func133, Tryz.ntmps133
 go_wp2_with fail
 refine HA.out.mono ?_
 rintro e w1 ⟨rfl, rfl⟩
 go_wp2
 go_ret
 exact ⟨rfl, rfl⟩
set_option maxHeartbeats 2000000 in
theorem op105_any (l : List Int) (p : Option Addr) (cap b k : Nat) (w : World) (hb : w.cell? ⟨b, 0, none⟩ = some (.slice p l.length cap)) (hI : IntsAt w p l) :
   Calls Tryz.prog 105 #[.int .i64 k, .pointer (some ⟨b, 0, none⟩)] w fun e w' => e = .returned (.int .i64 (atL l (k : Int))) ∧ w' = w := by
 have HA := hide (at_any l p cap (k : Int) w hI)
 generalize atL l (k : Int) = z at *
 clear hI
 go_enter Tryz.func105, Tryz.ntmps105
 go_wp2_with fail
 refine HA.out.mono ?_
 rintro e w1 ⟨rfl, rfl⟩
 go_wp2
 go_ret
 exact ⟨rfl, rfl⟩
set_option maxHeartbeats 4000000 in
theorem op134_any {w : World} {base Pb M B : Nat} {v : Value} {n : Nat} {ps : Gr} (h : Bs w base Pb M B v n ps) (hl : ps.length + 2 < 1000000) {bb bx by' bz py pz oy oz ly lz cy cz : Nat} {k : Nat} {x y z : Int}
   (hx : Val n ps x) (hy : Val n ps y) (hz : Val n ps z) (hky : k < ly) (hkz : k < lz) (b0 : w.cell? ⟨bb, 0, none⟩ = some (.pointer (some ⟨Pb, 0, none⟩))) (b1 : w.cell? ⟨bx, 0, none⟩ = some (.int .i64 x)) (b2 : w.cell? ⟨by', 0, none⟩ = some (.slice (some ⟨py, oy, none⟩) ly cy)) (b3 : w.cell? ⟨bz, 0, none⟩ = some (.slice (some ⟨pz, oz, none⟩) lz cz))
   (y0 : w.cell? ⟨py, oy + k, none⟩ = some (.int .i64 y)) (z0 : w.cell? ⟨pz, oz + k, none⟩ = some (.int .i64 z)) (a0 : Apart M B v bb) (a1 : Apart M B v bx) (a2 : Apart M B v by') (a3 : Apart M B v bz) (a5 : Apart M B v py) (a6 : Apart M B v pz) :
   Calls Tryz.prog 134 #[.int .i64 k, .pointer (some ⟨bb, 0, none⟩), .pointer (some ⟨bx, 0, none⟩), .pointer (some ⟨by', 0, none⟩), .pointer (some ⟨bz, 0, none⟩)] w (Made w base Pb M B v n (chooseG n x y z ps)) := by
 have HC := hide (fun (w1 : World) (hb : Bs w1 base Pb M B v n ps) => choose_any hb hl hx hy hz)
 have HH := hide h
 have HA := hide (And.intro a0 (And.intro a1 (And.intro a2 (And.intro a3 (And.intro a5 a6)))))
 have hky' : (k : Int) < (ly : Int) := by omega
 have hkz' : (k : Int) < (lz : Int) := by omega
 unfold Made at *
 generalize chooseG n x y z ps = R at *
 obtain ⟨L, qs⟩ := R
 simp only at HC ⊢
 clear h hx hy hz a0 a1 a2 a3 a5 a6 hky hkz
 go_enter Tryz.func134, Tryz.ntmps134
 go_wp2_with fail
 go_region_held3 (fun w' => w'.cell? ⟨bb, 0, none⟩ = some (.pointer (some ⟨Pb, 0, none⟩)) ∧ w'.cell? ⟨bx, 0, none⟩ = some (.int .i64 x) ∧ w'.cell? ⟨by', 0, none⟩ = some (.slice (some ⟨py, oy, none⟩) ly cy) ∧ w'.cell? ⟨bz, 0, none⟩ = some (.slice (some ⟨pz, oz, none⟩) lz cz) ∧ w'.cell? ⟨py, oy + k, none⟩ = some (.int .i64 y) ∧ w'.cell? ⟨pz, oz + k, none⟩ = some (.int .i64 z))
   (first | exact ⟨b0, b1, b2, b3, y0, z0⟩ | exact ⟨hgn.cell b0 HA.out.1, hgn.cell b1 HA.out.2.1, hgn.cell b2 HA.out.2.2.1, hgn.cell b3 HA.out.2.2.2.1, hgn.cell y0 HA.out.2.2.2.2.1, hgn.cell z0 HA.out.2.2.2.2.2⟩ | go_keep)
   ((go_at_call 103; with_reducible refine (HC.out _ (HH.out.later (Below.refl _ _).drew)).mono ?_; rintro e w1 ⟨v1, rfl, hbs, hgn⟩))
 have HR := hide (And.intro hbs ((gon_quiet (Below.refl _ _).drew (Below.refl _ _).drew).trans hgn))
 clear hbs hgn
 go_wp2
 go_ret
 exact ⟨v1, rfl, HR.out.1, HR.out.2⟩
set_option maxHeartbeats 4000000 in
theorem pick_any {w : World} {base Pb M B : Nat} {v : Value} {n : Nat} {ps : Gr} (h : Bs w base Pb M B v n ps) {ys zs : List Int} {py pz : Option Addr} {x : Int} {bb bx by' bz cy cz len : Nat} (hly : len ≤ ys.length) (hlz : len ≤ zs.length) (hn : len ≤ 8) (hl : ps.length + 3 * len < 1000000)
   (hx : Val n ps x) (hvy : Vals n ps ys) (hvz : Vals n ps zs) (b0 : w.cell? ⟨bb, 0, none⟩ = some (.pointer (some ⟨Pb, 0, none⟩))) (b1 : w.cell? ⟨bx, 0, none⟩ = some (.int .i64 x)) (b2 : w.cell? ⟨by', 0, none⟩ = some (.slice py ys.length cy)) (b3 : w.cell? ⟨bz, 0, none⟩ = some (.slice pz zs.length cz))
   (hY : LA w M B v py ys) (hZ : LA w M B v pz zs) (a0 : Apart M B v bb) (a1 : Apart M B v bx) (a2 : Apart M B v by') (a3 : Apart M B v bz) :
   Calls Tryz.prog 56 #[.int .i64 len, .func (.func 134) #[] #[.pointer (some ⟨bb, 0, none⟩), .pointer (some ⟨bx, 0, none⟩), .pointer (some ⟨by', 0, none⟩), .pointer (some ⟨bz, 0, none⟩)]] w
     (MadeL w base Pb M B v n len ((runS (plainS (iteS n x ys zs)) () ps len).1, (runS (plainS (iteS n x ys zs)) () ps len).2.2)) := by
 have hd := ite_does (len := len) h.good hly hlz hl hx hvy hvz
 refine plain4_any h 134 _ _ _ _ enter134 (iteS n x ys zs) (by omega) (fun k hk wr v' hbs hgn => ?_)
 have e1 := (hd k (by omega)).ext
 have l1 : ((runS (plainS (iteS n x ys zs)) () ps k).2.2).length ≤ ps.length + 3 * k := e1.len.2
 obtain ⟨gy, oy, rfl, _⟩ := hY.1 (by omega)
 obtain ⟨gz, oz, rfl, _⟩ := hZ.1 (by omega)
 obtain ⟨y1, y2⟩ := hY.cellG hgn (show k < ys.length by omega)
 obtain ⟨z1, z2⟩ := hZ.cellG hgn (show k < zs.length by omega)
 exact op134_any hbs (by omega) (e1.val hx) (e1.val (getD_val hvy (by omega))) (e1.val (getD_val hvz (by omega))) (show k < ys.length by omega) (show k < zs.length by omega) (hgn.cell b0 a0) (hgn.cell b1 a1) (hgn.cell b2 a2) (hgn.cell b3 a3) y1 z1 (hgn.ap b0 a0) (hgn.ap b1 a1) (hgn.ap b2 a2) (hgn.ap b3 a3) y2 z2
end Go.Proofs.YtabnimgpednhjabGreat.Gg

namespace Go.Proofs.YtabnimgpednhjabGreat.Gg
open Go.RowKit Go.Maps Go.WideMaps
set_option maxRecDepth 100000
theorem enter122 (args : Array Value) (w : World) : (callFunc 122 args).run Tryz.prog w = .ok (.enter 122 args) w := by kernel_rfl
theorem enter107 (args : Array Value) (w : World) : (callFunc 107 args).run Tryz.prog w = .ok (.enter 107 args) w := by kernel_rfl
def upF (l : List Int) (k : Nat) : Int := if k + 1 = l.length then turn (l.getD k 0) else l.getD k 0
set_option maxHeartbeats 2000000 in
theorem op122_any (l : List Int) (p : Option Addr) (cap b k : Nat) (hk : k < l.length) (hl : ∀ x ∈ l, 0 ≤ x ∧ x ≤ 10000000) (hn : l.length ≤ 1000) (w : World) (hb : w.cell? ⟨b, 0, none⟩ = some (.slice p l.length cap)) (hI : IntsAt w p l) :
   Calls Tryz.prog 122 #[.int .i64 k, .pointer (some ⟨b, 0, none⟩)] w fun e w' => e = .returned (.int .i64 (upF l k)) ∧ w' = w := by
 obtain ⟨g, off, rfl, hc⟩ := hI (by omega)
 have c0 := hc k hk
 have hx := hl _ (List.getElem_mem hk)
 have HT := hide (turn_any l[k] hx.1 hx.2)
 have hwr := wrap_id (x := (l.length : Int) - 1) (by omega) (by omega)
 have hki : (k : Int) < (l.length : Int) := by omega
 by_cases he : k + 1 = l.length
 · have HE : Hid (upF l k = turn l[k]) := by rw [Hid, upF, if_pos he, getD_at hk]
   have he2 : (l.length : Int) - 1 = (k : Int) := by omega
   rw [HE.out]
   generalize l[k] = x at *
   generalize turn x = tx at *
   clear hc hl he
   go_enter Tryz.func122, Tryz.ntmps122
   go_wp2_with fail
   refine (HT.out _).mono ?_
   rintro e w1 ⟨rfl, rfl⟩
   go_wp2
   go_ret
   exact ⟨rfl, rfl⟩
 · have HE : Hid (upF l k = l[k]) := by rw [Hid, upF, if_neg he, getD_at hk]
   have he' : ((k : Int) == (l.length : Int) - 1) = false := by simp; omega
   have he2 : ¬ (k : Int) = (l.length : Int) - 1 := by omega
   rw [HE.out]
   generalize l[k] = x at *
   clear hc hl he HT
   go_enter Tryz.func122, Tryz.ntmps122
   go_wp2
   go_ret
   exact ⟨rfl, rfl⟩
set_option maxHeartbeats 2000000 in
theorem upmost_any (l : List Int) (p : Option Addr) (cap : Nat) (hl : ∀ x ∈ l, 0 ≤ x ∧ x ≤ 10000000) (hn : l.length ≤ 1000) (w : World) (hI : IntsAt w p l) :
   Calls Tryz.prog 110 #[.slice p l.length cap] w fun e w' => ∃ G, e = .returned (.slice (some ⟨G, 0, none⟩) l.length l.length) ∧ w.heap.size ≤ G ∧ IRow w' G ((List.range l.length).map (upF l)) ∧ Below w.heap.size w w' := by
 have hB0 : Below w.heap.size w (w.alloc (.cells #[.slice p l.length cap] 25)) := bal (Below.refl _ _) _
 have HM := hide (reader_any 122 (upF l) l.length hn l p cap w.heap.size (w.alloc (.cells #[.slice p l.length cap] 25)) (by simp [go_sem]) (hI.later hB0) enter122 (fun k hk wr h1 h2 => op122_any l p cap w.heap.size k hk hl hn wr h1 h2))
 have HB0 := hide hB0
 clear hB0
 go_enter Tryz.func110, Tryz.ntmps110
 go_wp2_with fail
 refine HM.out.mono ?_
 rintro e w1 ⟨G, rfl, hG, hr, hb⟩
 have HR := hide hr
 have HB := hide (HB0.out.trans (hb.mono HB0.out.size))
 have hG2 : w.heap.size ≤ G := Nat.le_trans HB0.out.size hG
 clear hr hb hG
 go_wp2
 go_ret
 exact ⟨G, rfl, hG2, HR.out, HB.out⟩
def spreadF (l : List Int) (k : Nat) : Int := l.getD (min k (l.length - 1)) 0
set_option maxHeartbeats 2000000 in
theorem op107_any (l : List Int) (p : Option Addr) (cap b k : Nat) (h0 : 0 < l.length) (hn : l.length ≤ 1000) (w : World) (hb : w.cell? ⟨b, 0, none⟩ = some (.slice p l.length cap)) (hI : IntsAt w p l) :
   Calls Tryz.prog 107 #[.int .i64 k, .pointer (some ⟨b, 0, none⟩)] w fun e w' => e = .returned (.int .i64 (spreadF l k)) ∧ w' = w := by
 obtain ⟨g, off, rfl, hc⟩ := hI h0
 have hwr := wrap_id (x := (l.length : Int) - 1) (by omega) (by omega)
 by_cases hlt : k ≤ l.length - 1
 · have HE : Hid (spreadF l k = l[k]) := by rw [Hid, spreadF, Nat.min_eq_left (by omega), getD_at (by omega)]
   rw [HE.out]
   have c0 := hc k (by omega)
   have hlt' : ¬ (l.length : Int) - 1 < (k : Int) := by omega
   have hle' : (k : Int) ≤ (l.length : Int) - 1 := by omega
   have hki : (k : Int) < (l.length : Int) := by omega
   generalize l[k] = x at *
   clear hc hlt
   go_enter Tryz.func107, Tryz.ntmps107
   go_wp2
   go_ret
   exact ⟨rfl, rfl⟩
 · have HE : Hid (spreadF l k = l[l.length - 1]) := by rw [Hid, spreadF, Nat.min_eq_right (by omega), getD_at (by omega)]
   rw [HE.out]
   have c0 := hc (l.length - 1) (by omega)
   have hge' : (l.length : Int) - 1 < (k : Int) := by omega
   have hge2 : ¬ (k : Int) ≤ (l.length : Int) - 1 := by omega
   generalize l[l.length - 1] = x at *
   clear hc hlt
   go_enter Tryz.func107, Tryz.ntmps107
   go_wp2
   go_ret
   exact ⟨rfl, rfl⟩
end Go.Proofs.YtabnimgpednhjabGreat.Gg

namespace Go.Proofs.YtabnimgpednhjabGreat.Gg
set_option maxRecDepth 100000
def numB (f : Nat → Bool) : Nat → Nat
 | 0 => 0
 | k + 1 => numB f k + (if f k then 2 ^ k else 0)
theorem numB_lt (f : Nat → Bool) (k : Nat) : numB f k < 2 ^ k := by
 induction k with
 | zero => exact Nat.one_pos
 | succ k ih =>
   rw [numB, Nat.pow_succ]
   split <;> omega
theorem numB_congr {f g : Nat → Bool} {k : Nat} (h : ∀ i, i < k → f i = g i) : numB f k = numB g k := by
 induction k with
 | zero => rfl
 | succ k ih => rw [numB, numB, ih (fun i hi => h i (by omega)), h k (by omega)]
theorem sum_num (f g : Nat → Bool) (c : Bool) (k : Nat) :
   numB f k + numB g k + (if c then 1 else 0) = numB (fun i => (f i != g i) != carB f g c i) k + (if carB f g c k then 2 ^ k else 0) := by
 induction k with
 | zero => simp only [numB, carB]; cases c <;> rfl
 | succ k ih =>
   rw [numB, numB, numB, carB, Nat.pow_succ]
   cases f k <;> cases g k <;> cases hc : carB f g c k <;> rw [hc] at ih <;> simp at ih ⊢ <;> omega
theorem sum_mod (f g : Nat → Bool) (c : Bool) (k : Nat) :
   numB (fun i => (f i != g i) != carB f g c i) k = (numB f k + numB g k + (if c then 1 else 0)) % 2 ^ k := by
 rw [sum_num f g c k]
 have h := numB_lt (fun i => (f i != g i) != carB f g c i) k
 split
 · rw [Nat.add_mod_right, Nat.mod_eq_of_lt h]
 · rw [Nat.add_zero, Nat.mod_eq_of_lt h]
theorem not_num (g : Nat → Bool) (k : Nat) : numB (fun i => !g i) k + numB g k + 1 = 2 ^ k := by
 induction k with
 | zero => rfl
 | succ k ih =>
   rw [numB, numB, Nat.pow_succ]
   cases g k <;> simp <;> omega
theorem diff_num (f g : Nat → Bool) (k : Nat) :
   numB (fun i => (f i != !g i) != carB f (fun i => !g i) true i) k = (numB f k + 2 ^ k - numB g k) % 2 ^ k ∧ (carB f (fun i => !g i) true k = true ↔ numB g k ≤ numB f k) := by
 have h1 := sum_num f (fun i => !g i) true k
 have h2 := sum_mod f (fun i => !g i) true k
 have h3 := not_num g k
 have h4 := numB_lt (fun i => (f i != !g i) != carB f (fun i => !g i) true i) k
 have h5 := numB_lt f k
 have h6 := numB_lt g k
 simp only [if_true] at h1 h2
 refine ⟨?_, ?_⟩
 · rw [h2]
   congr 1
   omega
 · cases hc : carB f (fun i => !g i) true k
   · rw [hc] at h1
     simp only [Bool.false_eq_true, if_false] at h1
     simp
     omega
   · rw [hc] at h1
     simp only [if_true] at h1
     simp
     omega
theorem less_num (xs ys : List Bool) (k : Nat) : (lessB xs ys k = true ↔ numB (fun i => xs.getD i false) k < numB (fun i => ys.getD i false) k) := by
 induction k with
 | zero => simp [lessB, numB]
 | succ k ih =>
   have h5 := numB_lt (fun i => xs.getD i false) k
   have h6 := numB_lt (fun i => ys.getD i false) k
   rw [lessB, numB, numB]
   generalize numB (fun i => xs.getD i false) k = a at *
   generalize numB (fun i => ys.getD i false) k = b at *
   generalize xs.getD k false = p
   generalize ys.getD k false = q
   cases p <;> cases q <;> simp [ih] <;> omega
theorem eq_num (f g : Nat → Bool) (k : Nat) : (numB f k = numB g k ↔ ∀ i, i < k → f i = g i) := by
 induction k with
 | zero => simp [numB]
 | succ k ih =>
   have h5 := numB_lt f k
   have h6 := numB_lt g k
   constructor
   · intro h i hi
     rw [numB, numB] at h
     have h0 : f k = g k ∧ numB f k = numB g k := by
       revert h
       cases f k <;> cases g k <;> simp <;> omega
     by_cases e : i = k
     · rw [e]; exact h0.1
     · exact ih.1 h0.2 i (by omega)
   · intro h
     exact numB_congr h
end Go.Proofs.YtabnimgpednhjabGreat.Gg

namespace Go.Proofs.YtabnimgpednhjabGreat.Gg
set_option maxRecDepth 100000
theorem numB_mod (f : Nat → Bool) {j k : Nat} (h : j ≤ k) : numB f k % 2 ^ j = numB f j := by
 induction k with
 | zero =>
   obtain rfl : j = 0 := by omega
   rfl
 | succ k ih =>
   by_cases e : j = k + 1
   · subst e; exact Nat.mod_eq_of_lt (numB_lt _ _)
   · have hj : j ≤ k := by omega
     rw [numB]
     split
     · obtain ⟨d, rfl⟩ : ∃ d, k = j + d := ⟨k - j, by omega⟩
       rw [Nat.pow_add, Nat.add_mul_mod_self_left, ih hj]
     · rw [Nat.add_zero, ih hj]
theorem numB_add (f : Nat → Bool) (d k : Nat) : numB f (d + k) = numB f d + 2 ^ d * numB (fun i => f (i + d)) k := by
 induction k with
 | zero => simp [numB]
 | succ k ih =>
   rw [← Nat.add_assoc, numB, ih, numB, Nat.mul_add, Nat.add_comm d k]
   split
   · rw [Nat.pow_add, Nat.mul_comm (2 ^ k), Nat.add_assoc]
   · simp
theorem numB_none {f : Nat → Bool} {k : Nat} (h : ∀ i, i < k → f i = false) : numB f k = 0 := by
 induction k with
 | zero => rfl
 | succ k ih => rw [numB, ih (fun i hi => h i (by omega)), h k (by omega)]; rfl
theorem up_num (f : Nat → Bool) (d k : Nat) : numB (fun i => if i < d then false else f (i - d)) k = numB f k * 2 ^ d % 2 ^ k := by
 have h := numB_add (fun i => if i < d then false else f (i - d)) d k
 rw [numB_none (fun i hi => if_pos hi), Nat.zero_add] at h
 have e : numB (fun i => if i + d < d then false else f (i + d - d)) k = numB f k := numB_congr (fun i _ => by rw [if_neg (by omega), Nat.add_sub_cancel])
 rw [e] at h
 rw [Nat.mul_comm, ← h]
 exact (numB_mod _ (by omega)).symm
theorem down_num (f : Nat → Bool) (d k : Nat) (h0 : ∀ i, k ≤ i → f i = false) : numB (fun i => f (i + d)) k = numB f k / 2 ^ d := by
 have h := numB_add f d k
 have h2 := numB_add f k d
 rw [numB_none (f := fun i => f (i + k)) (fun i _ => h0 _ (by omega)), Nat.mul_zero, Nat.add_zero, Nat.add_comm k d] at h2
 rw [← h2, h, Nat.add_mul_div_left _ _ (Nat.two_pow_pos d), Nat.div_eq_of_lt (numB_lt f d), Nat.zero_add]
theorem row_num (f : Nat → Bool) (q : Bool) (d k : Nat) : numB (fun i => q && (if i < d then false else f (i - d))) k = (if q then numB f k * 2 ^ d else 0) % 2 ^ k := by
 cases q
 · simp only [Bool.false_and, Bool.false_eq_true, if_false, Nat.zero_mod]
   exact numB_none (fun _ _ => rfl)
 · simp only [Bool.true_and, if_true]
   exact up_num f d k
theorem prod_num {T : Nat → Nat → Bool} {f g : Nat → Bool} {k n : Nat} (h0 : numB (T 0) k = 0) (hs : ∀ j, j < n → numB (T (j + 1)) k = (numB (T j) k + (if g j then numB f k * 2 ^ j else 0) % 2 ^ k) % 2 ^ k) : ∀ j, j ≤ n → numB (T j) k = numB f k * numB g j % 2 ^ k := by
 intro j
 induction j with
 | zero => intro _; rw [h0, numB, Nat.mul_zero, Nat.zero_mod]
 | succ j ih =>
   intro hj
   rw [hs j (by omega), ih (by omega), numB, Nat.mul_add, ← Nat.add_mod]
   split
   · rfl
   · rw [Nat.mul_zero]
end Go.Proofs.YtabnimgpednhjabGreat.Gg
