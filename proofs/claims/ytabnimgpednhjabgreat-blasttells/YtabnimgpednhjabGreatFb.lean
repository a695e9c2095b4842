import Derived.Test.YtabnimgpednhjabGreatFaM
import Derived.Deep.RegionHeld3
namespace Go.Proofs.YtabnimgpednhjabGreat.Gg
open Go.RowKit Go.Maps Go.WideMaps
set_option maxRecDepth 100000
theorem mkf : ∀ (fn : Fn) (first cap : Array Value) (w : World), (Instr.makeFunc fn first cap).run Tryz.prog w = .ok (.func fn first cap) w := fun _ _ _ _ => rfl
theorem madeP_row {w w2 : World} {base Pb M B : Nat} {v : Value} {n : Nat} {ps : Gr} (h : Bs w base Pb M B v n ps) {len G : Nat} {l : List Int} {px : Option Addr} (hlen : len ≤ 8) (hb : Below w.heap.size w w2) (hG : w.heap.size ≤ G) (hr : IRow w2 G l) : MadeP w base Pb M B v n len px (l, ps) (.returned (.slice (some ⟨G, 0, none⟩) len len)) w2 :=
 ⟨v, _, _, rfl, ⟨⟨Nat.le_refl _, by unfold maxLen; omega⟩, fresh_new hG⟩, la_row hr (h.bm.new hG), h.later hb, gon_quiet (hb.mono h.hb) hb⟩
theorem madeP_L {px : Option Addr} {w w1 w2 : World} {base Pb M B : Nat} {v : Value} {n : Nat} {ps : Gr} (h : Bs w base Pb M B v n ps) {len : Nat} {r : List Int × Gr} {e : Ending} (hlen : len ≤ 8) (hb : Below w.heap.size w w1) (hm : MadeL w1 base Pb M B v n len r e w2) : MadeP w base Pb M B v n len px r e w2 := by
 obtain ⟨v', rfl, hr, hbs, hg, ha⟩ := hm
 exact ⟨v', _, _, rfl, ⟨⟨Nat.le_refl _, by unfold maxLen; omega⟩, fresh_new hb.size⟩, la_row hr ha, hbs, (gon_quiet (hb.mono h.hb) hb).trans hg⟩
theorem madeP_P {px : Option Addr} {w w1 w2 : World} {base Pb M B : Nat} {v : Value} {n : Nat} {ps : Gr} (h : Bs w base Pb M B v n ps) {len : Nat} {r : List Int × Gr} {e : Ending} (hb : Below w.heap.size w w1) (hm : MadeP w1 base Pb M B v n len px r e w2) : MadeP w base Pb M B v n len px r e w2 := by
 obtain ⟨v', p, cap, rfl, hc, hla, hbs, hg⟩ := hm
 exact ⟨v', p, cap, rfl, ⟨hc.1, fun g off e => (hc.2 g off e).imp (Nat.le_trans hb.size) id⟩, hla, hbs, (gon_quiet (hb.mono h.hb) hb).trans hg⟩
theorem madeP_one {px : Option Addr} {w w1 w2 : World} {base Pb M B : Nat} {v v2 : Value} {n : Nat} {ps qs : Gr} {x : Int} (h : Bs w base Pb M B v n ps) (hb : Below w.heap.size w w1) (hbs : Bs w2 base Pb M B v2 n qs) (hg : Gon base M B w1 v w2 v2) :
   MadeP w base Pb M B v n 1 px ([x], qs) (.returned (.slice (some ⟨w2.heap.size, 0, none⟩) 1 1)) (w2.alloc (.cells #[.int .i64 x] 3)) := by
 have hb2 : Below w2.heap.size w2 (w2.alloc (.cells #[.int .i64 x] 3)) := bal (Below.refl _ _) _
 have hr : IRow (w2.alloc (.cells #[.int .i64 x] 3)) w2.heap.size [x] := fun j hj => by
   obtain rfl : j = 0 := by simpa using hj
   simp [go_sem]
 exact ⟨v2, _, _, rfl, ⟨⟨Nat.le_refl _, by unfold maxLen; omega⟩, fresh_new (Nat.le_trans hb.size hg.bel.size)⟩, la_row hr (hbs.bm.new (Nat.le_refl _)), hbs.later hb2, ((gon_quiet (hb.mono h.hb) hb).trans hg).trans (gon_quiet (hb2.mono hbs.hb) hb2)⟩
theorem LA.cutL {w : World} {M B : Nat} {v : Value} {g off a c : Nat} {l : List Int} (h : LA w M B v (some ⟨g, off, none⟩) l) : LA w M B v (some ⟨g, off + a, none⟩) ((l.drop a).take c) := by
 refine ⟨fun h0 => ?_, fun g' off' e h0 => ?_⟩
 · obtain ⟨b, o, e, hc⟩ := h.1 (by simp at h0; omega)
   cases e
   refine ⟨g, off + a, rfl, fun i hi => ?_⟩
   have hi' : a + i < l.length := by simp at hi; omega
   rw [Nat.add_assoc, hc (a + i) hi']
   simp
 · cases e
   exact h.2 g off rfl (by simp at h0; omega)
set_option maxHeartbeats 2000000 in
theorem oper1_any {w : World} {base Pb M B : Nat} {v : Value} {n : Nat} {ps : Gr} (h : Bs w base Pb M B v n ps) {xs ys zs : List Int} {px py pz : Option Addr} {cx cy cz wd : Nat} {xa xb xc xn : Int} (hwd : 1 ≤ wd ∧ wd ≤ 8) (hx0 : 0 ≤ xn) (hx1 : xn ≤ 255) :
   Calls Tryz.prog 86 #[.pointer (some ⟨Pb, 0, none⟩), .agg #[.int .i64 1, .int .i64 (wd : Nat), .int .i64 xa, .int .i64 xb, .int .i64 xc, .int .i64 xn], .slice px xs.length cx, .slice py ys.length cy, .slice pz zs.length cz] w (MadeP w base Pb M B v n wd px (bitsC xn wd, ps)) := by
 have hmf := mkf
 have HT := hide (fun w1 => constant_any xn wd hx0 hx1 hwd.2 w1)
 have HH := hide h
 clear h 
 unfold MadeP
 go_enter Tryz.func86, Tryz.ntmps86
 go_wp2_with fail
 refine (HT.out _).mono ?_
 rintro e w2 ⟨G, rfl, hG, hr, hb⟩
 have HF := hide (madeP_row (px := px) HH.out hwd.2 (bthen (bal (bal (bal (bal (bal (Below.refl _ _) _) _) _) _) _) hb) (by simp at hG; omega) hr)
 clear hG hr hb HT
 unfold MadeP at HF
 go_wp2
 go_ret
 obtain ⟨v9, p9, c9, e9, r9⟩ := HF.out
 exact ⟨v9, p9, c9, e9, r9⟩
set_option maxHeartbeats 2000000 in
theorem oper4_any {w : World} {base Pb M B : Nat} {v : Value} {n : Nat} {ps : Gr} (h : Bs w base Pb M B v n ps) {xs ys zs : List Int} {px py pz : Option Addr} {cx cy cz wd : Nat} {xa xb xc xn : Int} (hwd : 1 ≤ wd ∧ wd ≤ 8) (hl : ps.length + 1200 < 1000000) (hlx : xs.length = wd) (hvx : Vals n ps xs) (hX : LA w M B v px xs) :
   Calls Tryz.prog 86 #[.pointer (some ⟨Pb, 0, none⟩), .agg #[.int .i64 4, .int .i64 (wd : Nat), .int .i64 xa, .int .i64 xb, .int .i64 xc, .int .i64 xn], .slice px xs.length cx, .slice py ys.length cy, .slice pz zs.length cz] w (MadeP w base Pb M B v n wd px (xs.map turn, ps)) := by
 have hmf := mkf
 have hins := h.ins
 have HT := hide (fun (w1 : World) (hb : Below w.heap.size w w1) => turnedB_any xs px cx (fun x hx => ⟨(hvx x hx).1, by have := (hvx x hx).2; omega⟩) (by omega) w1 (hX.1.later hb))
 rw [hlx] at HT
 have HLX := hide hlx
 have HH := hide h
 clear h hvx hX hlx hins
 rw [HLX.out]
 unfold MadeP
 go_enter Tryz.func86, Tryz.ntmps86
 go_wp2_with fail
 refine (HT.out _ (bal (bal (bal (bal (bal (Below.refl _ _) _) _) _) _) _)).mono ?_
 rintro e w2 ⟨G, rfl, hG, hr, hb⟩
 have HF := hide (madeP_row (px := px) HH.out hwd.2 (bthen (bal (bal (bal (bal (bal (Below.refl _ _) _) _) _) _) _) hb) (by simp at hG; omega) hr)
 clear hG hr hb HT
 unfold MadeP at HF
 go_wp2
 go_ret
 obtain ⟨v9, p9, c9, e9, r9⟩ := HF.out
 exact ⟨v9, p9, c9, e9, r9⟩
set_option maxHeartbeats 2000000 in
theorem oper6_any {w : World} {base Pb M B : Nat} {v : Value} {n : Nat} {ps : Gr} (h : Bs w base Pb M B v n ps) {xs ys zs : List Int} {px py pz : Option Addr} {cx cy cz wd : Nat} {xa xb xc xn : Int} (hwd : 1 ≤ wd ∧ wd ≤ 8) (hl : ps.length + 1200 < 1000000) (hlx : xs.length = wd) (hly : ys.length = wd) (hvx : Vals n ps xs) (hvy : Vals n ps ys) (hX : LA w M B v px xs) (hY : LA w M B v py ys) :
   Calls Tryz.prog 86 #[.pointer (some ⟨Pb, 0, none⟩), .agg #[.int .i64 6, .int .i64 (wd : Nat), .int .i64 xa, .int .i64 xb, .int .i64 xc, .int .i64 xn], .slice px xs.length cx, .slice py ys.length cy, .slice pz zs.length cz] w (MadeP w base Pb M B v n wd px ((runS (zipS (bothG n) xs ys) () ps wd).1, (runS (zipS (bothG n) xs ys) () ps wd).2.2)) := by
 have hmf := mkf
 have HT := hide (fun (w1 : World) (bb bx by' : Nat) (hb : Below w.heap.size w w1) (b0 : w1.cell? ⟨bb, 0, none⟩ = some (.pointer (some ⟨Pb, 0, none⟩))) (b1 : w1.cell? ⟨bx, 0, none⟩ = some (.slice px xs.length cx)) (b2 : w1.cell? ⟨by', 0, none⟩ = some (.slice py ys.length cy)) (g0 : w.heap.size ≤ bb) (g1 : w.heap.size ≤ bx) (g2 : w.heap.size ≤ by') => (zip96_any (h.later hb) (len := wd) (by omega) (by omega) hwd.2 (by omega) hvx hvy b0 b1 b2 (hX.later hb) (hY.later hb) (h.bm.new g0) (h.bm.new g1) (h.bm.new g2)).mono (fun _ _ hm => madeP_L (px := px) h hwd.2 hb hm))
 unfold MadeP at HT
 have HH := hide h
 clear h hvx hvy hX hY hlx hly
 unfold MadeP
 go_enter Tryz.func86, Tryz.ntmps86
 go_wp2_with fail
 refine (HT.out _ _ _ _ (bal (bal (bal (bal (bal (Below.refl _ _) _) _) _) _) _) (by simp [go_sem]) (by simp [go_sem]) (by simp [go_sem]) (by omega) (by omega) (by omega)).mono ?_
 rintro e w2 ⟨v2, p2, c2, rfl, hf⟩
 have HF := hide hf
 clear hf HT
 go_wp2
 go_ret
 exact ⟨v2, p2, c2, rfl, HF.out⟩
set_option maxHeartbeats 2000000 in
theorem oper7_any {w : World} {base Pb M B : Nat} {v : Value} {n : Nat} {ps : Gr} (h : Bs w base Pb M B v n ps) {xs ys zs : List Int} {px py pz : Option Addr} {cx cy cz wd : Nat} {xa xb xc xn : Int} (hwd : 1 ≤ wd ∧ wd ≤ 8) (hl : ps.length + 1200 < 1000000) (hlx : xs.length = wd) (hly : ys.length = wd) (hvx : Vals n ps xs) (hvy : Vals n ps ys) (hX : LA w M B v px xs) (hY : LA w M B v py ys) :
   Calls Tryz.prog 86 #[.pointer (some ⟨Pb, 0, none⟩), .agg #[.int .i64 7, .int .i64 (wd : Nat), .int .i64 xa, .int .i64 xb, .int .i64 xc, .int .i64 xn], .slice px xs.length cx, .slice py ys.length cy, .slice pz zs.length cz] w (MadeP w base Pb M B v n wd px ((runS (zipS (eitherG n) xs ys) () ps wd).1, (runS (zipS (eitherG n) xs ys) () ps wd).2.2)) := by
 have hmf := mkf
 have HT := hide (fun (w1 : World) (bb bx by' : Nat) (hb : Below w.heap.size w w1) (b0 : w1.cell? ⟨bb, 0, none⟩ = some (.pointer (some ⟨Pb, 0, none⟩))) (b1 : w1.cell? ⟨bx, 0, none⟩ = some (.slice px xs.length cx)) (b2 : w1.cell? ⟨by', 0, none⟩ = some (.slice py ys.length cy)) (g0 : w.heap.size ≤ bb) (g1 : w.heap.size ≤ bx) (g2 : w.heap.size ≤ by') => (zip98_any (h.later hb) (len := wd) (by omega) (by omega) hwd.2 (by omega) hvx hvy b0 b1 b2 (hX.later hb) (hY.later hb) (h.bm.new g0) (h.bm.new g1) (h.bm.new g2)).mono (fun _ _ hm => madeP_L (px := px) h hwd.2 hb hm))
 unfold MadeP at HT
 have HH := hide h
 clear h hvx hvy hX hY hlx hly
 unfold MadeP
 go_enter Tryz.func86, Tryz.ntmps86
 go_wp2_with fail
 refine (HT.out _ _ _ _ (bal (bal (bal (bal (bal (Below.refl _ _) _) _) _) _) _) (by simp [go_sem]) (by simp [go_sem]) (by simp [go_sem]) (by omega) (by omega) (by omega)).mono ?_
 rintro e w2 ⟨v2, p2, c2, rfl, hf⟩
 have HF := hide hf
 clear hf HT
 go_wp2
 go_ret
 exact ⟨v2, p2, c2, rfl, HF.out⟩
set_option maxHeartbeats 2000000 in
theorem oper8_any {w : World} {base Pb M B : Nat} {v : Value} {n : Nat} {ps : Gr} (h : Bs w base Pb M B v n ps) {xs ys zs : List Int} {px py pz : Option Addr} {cx cy cz wd : Nat} {xa xb xc xn : Int} (hwd : 1 ≤ wd ∧ wd ≤ 8) (hl : ps.length + 1200 < 1000000) (hlx : xs.length = wd) (hly : ys.length = wd) (hvx : Vals n ps xs) (hvy : Vals n ps ys) (hX : LA w M B v px xs) (hY : LA w M B v py ys) :
   Calls Tryz.prog 86 #[.pointer (some ⟨Pb, 0, none⟩), .agg #[.int .i64 8, .int .i64 (wd : Nat), .int .i64 xa, .int .i64 xb, .int .i64 xc, .int .i64 xn], .slice px xs.length cx, .slice py ys.length cy, .slice pz zs.length cz] w (MadeP w base Pb M B v n wd px ((runS (zipS (differG n) xs ys) () ps wd).1, (runS (zipS (differG n) xs ys) () ps wd).2.2)) := by
 have hmf := mkf
 have HT := hide (fun (w1 : World) (bb bx by' : Nat) (hb : Below w.heap.size w w1) (b0 : w1.cell? ⟨bb, 0, none⟩ = some (.pointer (some ⟨Pb, 0, none⟩))) (b1 : w1.cell? ⟨bx, 0, none⟩ = some (.slice px xs.length cx)) (b2 : w1.cell? ⟨by', 0, none⟩ = some (.slice py ys.length cy)) (g0 : w.heap.size ≤ bb) (g1 : w.heap.size ≤ bx) (g2 : w.heap.size ≤ by') => (zip100_any (h.later hb) (len := wd) (by omega) (by omega) hwd.2 (by omega) hvx hvy b0 b1 b2 (hX.later hb) (hY.later hb) (h.bm.new g0) (h.bm.new g1) (h.bm.new g2)).mono (fun _ _ hm => madeP_L (px := px) h hwd.2 hb hm))
 unfold MadeP at HT
 have HH := hide h
 clear h hvx hvy hX hY hlx hly
 unfold MadeP
 go_enter Tryz.func86, Tryz.ntmps86
 go_wp2_with fail
 refine (HT.out _ _ _ _ (bal (bal (bal (bal (bal (Below.refl _ _) _) _) _) _) _) (by simp [go_sem]) (by simp [go_sem]) (by simp [go_sem]) (by omega) (by omega) (by omega)).mono ?_
 rintro e w2 ⟨v2, p2, c2, rfl, hf⟩
 have HF := hide hf
 clear hf HT
 go_wp2
 go_ret
 exact ⟨v2, p2, c2, rfl, HF.out⟩
set_option maxHeartbeats 2000000 in
theorem oper19_any {w : World} {base Pb M B : Nat} {v : Value} {n : Nat} {ps : Gr} (h : Bs w base Pb M B v n ps) {xs ys zs : List Int} {px py pz : Option Addr} {cx cy cz wd : Nat} {xa xb xc xn : Int} (hwd : 1 ≤ wd ∧ wd ≤ 8) (hl : ps.length + 1200 < 1000000) (hlx : xs.length = 1) (hly : ys.length = wd) (hlz : zs.length = wd) (hvx : Vals n ps xs) (hvy : Vals n ps ys) (hvz : Vals n ps zs) (hX : LA w M B v px xs) (hY : LA w M B v py ys) (hZ : LA w M B v pz zs) :
   Calls Tryz.prog 86 #[.pointer (some ⟨Pb, 0, none⟩), .agg #[.int .i64 19, .int .i64 (wd : Nat), .int .i64 xa, .int .i64 xb, .int .i64 xc, .int .i64 xn], .slice px xs.length cx, .slice py ys.length cy, .slice pz zs.length cz] w (MadeP w base Pb M B v n wd px ((runS (plainS (iteS n (xs.getD 0 0) ys zs)) () ps wd).1, (runS (plainS (iteS n (xs.getD 0 0) ys zs)) () ps wd).2.2)) := by
 have hmf := mkf
 have HT := hide (fun (w1 : World) (bb bx by' bz : Nat) (hb : Below w.heap.size w w1) (b0 : w1.cell? ⟨bb, 0, none⟩ = some (.pointer (some ⟨Pb, 0, none⟩))) (b1 : w1.cell? ⟨bx, 0, none⟩ = some (.slice px xs.length cx)) (b2 : w1.cell? ⟨by', 0, none⟩ = some (.slice py ys.length cy)) (b3 : w1.cell? ⟨bz, 0, none⟩ = some (.slice pz zs.length cz)) (g0 : w.heap.size ≤ bb) (g1 : w.heap.size ≤ bx) (g2 : w.heap.size ≤ by') (g3 : w.heap.size ≤ bz) => (ite_any (h.later hb) (len := wd) (by omega) (by omega) (by omega) hwd.2 (by omega) hvx hvy hvz b0 b1 b2 b3 (hX.later hb) (hY.later hb) (hZ.later hb) (h.bm.new g0) (h.bm.new g1) (h.bm.new g2) (h.bm.new g3)).mono (fun _ _ hm => madeP_L (px := px) h hwd.2 hb hm))
 unfold MadeP at HT
 have HH := hide h
 clear h hvx hvy hvz hX hY hZ hlx hly hlz
 unfold MadeP
 go_enter Tryz.func86, Tryz.ntmps86
 go_wp2_with fail
 refine (HT.out _ _ _ _ _ (bal (bal (bal (bal (bal (Below.refl _ _) _) _) _) _) _) (by simp [go_sem]) (by simp [go_sem]) (by simp [go_sem]) (by simp [go_sem]) (by omega) (by omega) (by omega) (by omega)).mono ?_
 rintro e w2 ⟨v2, p2, c2, rfl, hf⟩
 have HF := hide hf
 clear hf HT
 go_wp2
 go_ret
 exact ⟨v2, p2, c2, rfl, HF.out⟩
set_option maxHeartbeats 2000000 in
theorem oper22_any {w : World} {base Pb M B : Nat} {v : Value} {n : Nat} {ps : Gr} (h : Bs w base Pb M B v n ps) {xs ys zs : List Int} {px py pz : Option Addr} {cx cy cz wd : Nat} {xa xb xc xn : Int} (hwd : 1 ≤ wd ∧ wd ≤ 8) (hX : LA w M B v px xs) :
   Calls Tryz.prog 86 #[.pointer (some ⟨Pb, 0, none⟩), .agg #[.int .i64 22, .int .i64 (wd : Nat), .int .i64 xa, .int .i64 xb, .int .i64 xc, .int .i64 xn], .slice px xs.length cx, .slice py ys.length cy, .slice pz zs.length cz] w (MadeP w base Pb M B v n wd px ((List.range wd).map (fun q : Nat => atL xs (q : Int)), ps)) := by
 have hmf := mkf
 have HT := hide (fun (w1 : World) (bx : Nat) (hb : Below w.heap.size w w1) (b1 : w1.cell? ⟨bx, 0, none⟩ = some (.slice px xs.length cx)) => reader_any 105 (fun q : Nat => atL xs (q : Int)) wd (by omega) xs px cx bx w1 b1 (hX.1.later hb) enter105 (fun q hq wr h1 h2 => op105_any xs _ _ _ q wr h1 h2))
 have HH := hide h
 clear h hX
 unfold MadeP
 go_enter Tryz.func86, Tryz.ntmps86
 go_wp2_with fail
 refine (HT.out _ _ (bal (bal (bal (bal (bal (Below.refl _ _) _) _) _) _) _) (by simp [go_sem])).mono ?_
 rintro e w2 ⟨G, rfl, hG, hr, hb⟩
 have HF := hide (madeP_row (px := px) HH.out hwd.2 (bthen (bal (bal (bal (bal (bal (Below.refl _ _) _) _) _) _) _) hb) (by simp at hG; omega) hr)
 clear hG hr hb HT
 unfold MadeP at HF
 go_wp2
 go_ret
 obtain ⟨v9, p9, c9, e9, r9⟩ := HF.out
 exact ⟨v9, p9, c9, e9, r9⟩
set_option maxHeartbeats 2000000 in
theorem oper23_any {w : World} {base Pb M B : Nat} {v : Value} {n : Nat} {ps : Gr} (h : Bs w base Pb M B v n ps) {xs ys zs : List Int} {px py pz : Option Addr} {cx cy cz wd : Nat} {xa xb xc xn : Int} (hwd : 1 ≤ wd ∧ wd ≤ 8) (hx0 : 0 < xs.length) (hx8 : xs.length ≤ 8) (hX : LA w M B v px xs) :
   Calls Tryz.prog 86 #[.pointer (some ⟨Pb, 0, none⟩), .agg #[.int .i64 23, .int .i64 (wd : Nat), .int .i64 xa, .int .i64 xb, .int .i64 xc, .int .i64 xn], .slice px xs.length cx, .slice py ys.length cy, .slice pz zs.length cz] w (MadeP w base Pb M B v n wd px ((List.range wd).map (spreadF xs), ps)) := by
 have hmf := mkf
 have HT := hide (fun (w1 : World) (bx : Nat) (hb : Below w.heap.size w w1) (b1 : w1.cell? ⟨bx, 0, none⟩ = some (.slice px xs.length cx)) => reader_any 107 (spreadF xs) wd (by omega) xs px cx bx w1 b1 (hX.1.later hb) enter107 (fun q hq wr h1 h2 => op107_any xs _ _ _ q hx0 (by omega) wr h1 h2))
 have HH := hide h
 clear h hX
 unfold MadeP
 go_enter Tryz.func86, Tryz.ntmps86
 go_wp2_with fail
 refine (HT.out _ _ (bal (bal (bal (bal (bal (Below.refl _ _) _) _) _) _) _) (by simp [go_sem])).mono ?_
 rintro e w2 ⟨G, rfl, hG, hr, hb⟩
 have HF := hide (madeP_row (px := px) HH.out hwd.2 (bthen (bal (bal (bal (bal (bal (Below.refl _ _) _) _) _) _) _) hb) (by simp at hG; omega) hr)
 clear hG hr hb HT
 unfold MadeP at HF
 go_wp2
 go_ret
 obtain ⟨v9, p9, c9, e9, r9⟩ := HF.out
 exact ⟨v9, p9, c9, e9, r9⟩
set_option maxHeartbeats 2000000 in
theorem oper20_any {w : World} {base Pb M B : Nat} {v : Value} {n : Nat} {ps : Gr} (h : Bs w base Pb M B v n ps) {xs ys zs : List Int} {px py pz : Option Addr} {cx cy cz wd : Nat} {xa xb xc xn : Int} (hwd : 1 ≤ wd ∧ wd ≤ 8) (hlw : ys.length + xs.length = wd) (hx0 : 0 < xs.length) (hy0 : 0 < ys.length) (hX : LA w M B v px xs) (hY : LA w M B v py ys) :
   Calls Tryz.prog 86 #[.pointer (some ⟨Pb, 0, none⟩), .agg #[.int .i64 20, .int .i64 (wd : Nat), .int .i64 xa, .int .i64 xb, .int .i64 xc, .int .i64 xn], .slice px xs.length cx, .slice py ys.length cy, .slice pz zs.length cz] w (MadeP w base Pb M B v n wd px (ys ++ xs, ps)) := by
 have hmf := mkf
 have nx : px ≠ none := fun e => by obtain ⟨_, _, e2, _⟩ := hX.1 hx0; rw [e] at e2; cases e2
 have ny : py ≠ none := fun e => by obtain ⟨_, _, e2, _⟩ := hY.1 hy0; rw [e] at e2; cases e2
 have HT := hide (fun (w1 : World) (G : Nat) (hb : Below w.heap.size w w1) (c0 : w1.cell? ⟨G, 0, none⟩ = some (.slice py ys.length cy)) (c1 : w1.cell? ⟨G, 1, none⟩ = some (.slice px xs.length cx)) => concat_any [⟨py, ys, cy⟩, ⟨px, xs, cx⟩] (some ⟨G, 0, none⟩) 2 w1 (by simp) (fun r hr => by simp at hr; rcases hr with rfl | rfl <;> simp only <;> omega) (fun _ => ⟨G, 0, rfl, fun i hi => by (match i, hi with | 0, _ => exact c0 | 1, _ => exact c1)⟩) (fun r hr => by simp at hr; rcases hr with rfl | rfl <;> simp only <;> first | exact ⟨hY.1.later hb, fun e => absurd e ny⟩ | exact ⟨hX.1.later hb, fun e => absurd e nx⟩))
 simp only [List.flatMap_cons, List.flatMap_nil, List.append_nil, List.length_append, hlw, List.length_cons, List.length_nil, Nat.zero_add] at HT
 have HH := hide h
 clear h hX hY hlw nx ny
 unfold MadeP
 go_enter Tryz.func86, Tryz.ntmps86
 go_wp2_with fail
 refine (HT.out _ _ (bal (bal (bal (bal (bal (bal (Below.refl _ _) _) _) _) _) _) _) (by simp [go_sem]) (by simp [go_sem])).mono ?_
 rintro e w2 ⟨q, k, rfl, hI, hnil, hnew, hcap, hb⟩
 have HF : Hid (MadeP w base Pb M B v n wd px (ys ++ xs, ps) (.returned (.slice q wd k)) w2) := ⟨v, q, k, rfl, ⟨hcap, fun g off e => Or.inl (by have := hnew g off e; simp at this; omega)⟩, ⟨hI, fun g off e _ => HH.out.bm.new (by have := hnew g off e; simp at this; omega)⟩, HH.out.later (bthen (bal (bal (bal (bal (bal (bal (Below.refl _ _) _) _) _) _) _) _) hb), gon_quiet ((bthen (bal (bal (bal (bal (bal (bal (Below.refl _ _) _) _) _) _) _) _) hb).mono HH.out.hb) (bthen (bal (bal (bal (bal (bal (bal (Below.refl _ _) _) _) _) _) _) _) hb)⟩
 clear hI hnil hnew hcap hb HT
 unfold MadeP at HF
 go_wp2
 go_ret
 obtain ⟨v9, p9, c9, e9, r9⟩ := HF.out
 exact ⟨v9, p9, c9, e9, r9⟩
set_option maxHeartbeats 2000000 in
theorem oper21_any {w : World} {base Pb M B : Nat} {v : Value} {n : Nat} {ps : Gr} (h : Bs w base Pb M B v n ps) {xs ys zs : List Int} {px py pz : Option Addr} {cx cy cz wd : Nat} {xa xb xc : Int} (hwd : 1 ≤ wd ∧ wd ≤ 8) {a : Nat} (hlw : a + wd ≤ xs.length) (hx8 : xs.length ≤ 8) (hcx : xs.length ≤ cx ∧ cx ≤ maxLen) (hX : LA w M B v px xs) :
   Calls Tryz.prog 86 #[.pointer (some ⟨Pb, 0, none⟩), .agg #[.int .i64 21, .int .i64 (wd : Nat), .int .i64 xa, .int .i64 xb, .int .i64 xc, .int .i64 (a : Nat)], .slice px xs.length cx, .slice py ys.length cy, .slice pz zs.length cz] w (MadeP w base Pb M B v n wd px ((xs.drop a).take wd, ps)) := by
 have hmf := mkf
 obtain ⟨g, off, rfl, _⟩ := hX.1 (by omega)
 have h1 : (a : Int) + (wd : Int) ≤ (cx : Int) := by omega
 have h2 : (a : Int) ≤ (a : Int) + (wd : Int) := by omega
 have hwr := wrap_id (x := (a : Int) + (wd : Int)) (by omega) (by omega)
 have HX := hide hX
 have HC := hide hcx
 have ha : a + wd ≤ cx := by omega
 have hwm : cx ≤ maxLen := hcx.2
 have HH := hide h
 clear h hX hlw
 unfold MadeP
 go_enter Tryz.func86, Tryz.ntmps86
 go_wp2_with fail
 go_ret
 exact ⟨v, some ⟨g, off + a, none⟩, cx - a, by (show Ending.returned (.slice (some ⟨g, off + a, none⟩) (a + wd - a) (cx - a)) = _; rw [Nat.add_sub_cancel_left]), ⟨⟨by omega, by omega⟩, fun _ _ e => by cases e; exact Or.inr ⟨_, rfl⟩⟩, HX.out.cutL.later (bal (bal (bal (bal (bal (Below.refl _ _) _) _) _) _) _), HH.out.later (bal (bal (bal (bal (bal (Below.refl _ _) _) _) _) _) _), gon_quiet ((bal (bal (bal (bal (bal (Below.refl _ _) _) _) _) _) _).mono HH.out.hb) (bal (bal (bal (bal (bal (Below.refl _ _) _) _) _) _) _)⟩
set_option maxHeartbeats 2000000 in
theorem oper16_any {w : World} {base Pb M B : Nat} {v : Value} {n : Nat} {ps : Gr} (h : Bs w base Pb M B v n ps) {xs ys zs : List Int} {px py pz : Option Addr} {cx cy cz : Nat} {xa xb xc xn : Int} (hl : ps.length + 1200 < 1000000) (hx8 : xs.length ≤ 8) (hly : ys.length = xs.length) (hvx : Vals n ps xs) (hvy : Vals n ps ys) (hX : LA w M B v px xs) (hY : LA w M B v py ys) :
   Calls Tryz.prog 86 #[.pointer (some ⟨Pb, 0, none⟩), .agg #[.int .i64 16, .int .i64 ((1) : Nat), .int .i64 xa, .int .i64 xb, .int .i64 xc, .int .i64 xn], .slice px xs.length cx, .slice py ys.length cy, .slice pz zs.length cz] w (MadeP w base Pb M B v n 1 px ([(samesG n xs ys ps xs.length).1], (samesG n xs ys ps xs.length).2)) := by
 have hmf := mkf
 have HT := hide (fun (w1 : World) (hb : Below w.heap.size w w1) => same_any (h.later hb) (cx := cx) (cy := cy) hly hx8 (by omega) hvx hvy (hX.later hb) (hY.later hb))
 unfold Made at HT
 have HLY := hide hly
 have HB5 : Hid (∀ a b c d e : Obj, Below w.heap.size w (((((w.alloc a).alloc b).alloc c).alloc d).alloc e)) := fun _ _ _ _ _ => (bal (bal (bal (bal (bal (Below.refl _ _) _) _) _) _) _)
 generalize samesG n xs ys ps xs.length = R at *
 obtain ⟨lt, qs⟩ := R
 have HH := hide h
 clear h hvx hvy hX hY hly
 rw [HLY.out]
 unfold MadeP
 go_enter Tryz.func86, Tryz.ntmps86
 go_wp2_with fail
 refine (HT.out _ (HB5.out _ _ _ _ _)).mono ?_
 rintro e w2 ⟨v2, rfl, hbs2, hg2⟩
 have HF := hide (madeP_one (px := px) (x := lt) HH.out (HB5.out _ _ _ _ _) hbs2 hg2)
 clear hbs2 hg2 HT HB5
 unfold MadeP at HF
 go_wp2
 go_ret
 obtain ⟨v9, p9, c9, e9, r9⟩ := HF.out
 exact ⟨v9, p9, c9, e9, r9⟩
set_option maxHeartbeats 2000000 in
theorem oper17_any {w : World} {base Pb M B : Nat} {v : Value} {n : Nat} {ps : Gr} (h : Bs w base Pb M B v n ps) {xs ys zs : List Int} {px py pz : Option Addr} {cx cy cz : Nat} {xa xb xc xn : Int} (hl : ps.length + 1200 < 1000000) (hx8 : xs.length ≤ 8) (hly : ys.length = xs.length) (hvx : Vals n ps xs) (hvy : Vals n ps ys) (hX : LA w M B v px xs) (hY : LA w M B v py ys) :
   Calls Tryz.prog 86 #[.pointer (some ⟨Pb, 0, none⟩), .agg #[.int .i64 17, .int .i64 ((1) : Nat), .int .i64 xa, .int .i64 xb, .int .i64 xc, .int .i64 xn], .slice px xs.length cx, .slice py ys.length cy, .slice pz zs.length cz] w (MadeP w base Pb M B v n 1 px ([(lessG n xs ys ps xs.length).1], (lessG n xs ys ps xs.length).2)) := by
 have hmf := mkf
 have HT := hide (fun (w1 : World) (hb : Below w.heap.size w w1) => less_any (h.later hb) (cx := cx) (cy := cy) hly hx8 (by omega) hvx hvy (hX.later hb) (hY.later hb))
 unfold Made at HT
 have HLY := hide hly
 have HB5 : Hid (∀ a b c d e : Obj, Below w.heap.size w (((((w.alloc a).alloc b).alloc c).alloc d).alloc e)) := fun _ _ _ _ _ => (bal (bal (bal (bal (bal (Below.refl _ _) _) _) _) _) _)
 generalize lessG n xs ys ps xs.length = R at *
 obtain ⟨lt, qs⟩ := R
 have HH := hide h
 clear h hvx hvy hX hY hly
 rw [HLY.out]
 unfold MadeP
 go_enter Tryz.func86, Tryz.ntmps86
 go_wp2_with fail
 refine (HT.out _ (HB5.out _ _ _ _ _)).mono ?_
 rintro e w2 ⟨v2, rfl, hbs2, hg2⟩
 have HF := hide (madeP_one (px := px) (x := lt) HH.out (HB5.out _ _ _ _ _) hbs2 hg2)
 clear hbs2 hg2 HT HB5
 unfold MadeP at HF
 go_wp2
 go_ret
 obtain ⟨v9, p9, c9, e9, r9⟩ := HF.out
 exact ⟨v9, p9, c9, e9, r9⟩
def upL (l : List Int) : List Int := (List.range l.length).map (upF l)
theorem upL_len (l : List Int) : (upL l).length = l.length := by simp [upL]
theorem upL_vals {n : Nat} {ps : Gr} {l : List Int} (h : Vals n ps l) : Vals n ps (upL l) := fun x hx => by
 obtain ⟨i, hi, rfl⟩ := List.mem_map.1 hx
 have hi' := List.mem_range.1 hi
 unfold upF
 split
 · exact (getD_val h hi').turn
 · exact getD_val h hi'
set_option maxHeartbeats 2000000 in
theorem oper18_any {w : World} {base Pb M B : Nat} {v : Value} {n : Nat} {ps : Gr} (h : Bs w base Pb M B v n ps) {xs ys zs : List Int} {px py pz : Option Addr} {cx cy cz : Nat} {xa xb xc xn : Int} (hl : ps.length + 1200 < 1000000) (hx8 : xs.length ≤ 8) (hly : ys.length = xs.length) (hvx : Vals n ps xs) (hvy : Vals n ps ys) (hX : LA w M B v px xs) (hY : LA w M B v py ys) :
   Calls Tryz.prog 86 #[.pointer (some ⟨Pb, 0, none⟩), .agg #[.int .i64 18, .int .i64 ((1) : Nat), .int .i64 xa, .int .i64 xb, .int .i64 xc, .int .i64 xn], .slice px xs.length cx, .slice py ys.length cy, .slice pz zs.length cz] w (MadeP w base Pb M B v n 1 px ([(lessG n (upL xs) (upL ys) ps xs.length).1], (lessG n (upL xs) (upL ys) ps xs.length).2)) := by
 have hmf := mkf
 have hins := h.ins
 have HU := hide (fun (w1 : World) (hb : Below w.heap.size w w1) => upmost_any xs px cx (fun x hx => ⟨(hvx x hx).1, by have := (hvx x hx).2; omega⟩) (by omega) w1 (hX.1.later hb))
 have HV := hide (fun (w1 : World) (hb : Below w.heap.size w w1) => upmost_any ys py cy (fun x hx => ⟨(hvy x hx).1, by have := (hvy x hx).2; omega⟩) (by omega) w1 (hY.1.later hb))
 rw [hly] at HV
 rw [← hly, show (List.range ys.length).map (upF ys) = upL ys from rfl, hly] at HV
 rw [show (List.range xs.length).map (upF xs) = upL xs from rfl] at HU
 have HT := hide (fun (w1 : World) (G1 G2 : Nat) (hb : Below w.heap.size w w1) (h1 : LA w1 M B v (some ⟨G1, 0, none⟩) (upL xs)) (h2 : LA w1 M B v (some ⟨G2, 0, none⟩) (upL ys)) => less_any (h.later hb) (cx := xs.length) (cy := xs.length) (by rw [upL_len, upL_len, hly]) (by rw [upL_len]; exact hx8) (by omega) (upL_vals hvx) (upL_vals hvy) h1 h2)
 unfold Made at HT
 rw [upL_len] at HT
 have HLY := hide hly
 have HB5 : Hid (∀ a b c d e : Obj, Below w.heap.size w (((((w.alloc a).alloc b).alloc c).alloc d).alloc e)) := fun _ _ _ _ _ => (bal (bal (bal (bal (bal (Below.refl _ _) _) _) _) _) _)
 generalize lessG n (upL xs) (upL ys) ps xs.length = R at *
 obtain ⟨lt, qs⟩ := R
 have HH := hide h
 clear h hvx hvy hX hY hly hins
 rw [HLY.out]
 unfold MadeP
 go_enter Tryz.func86, Tryz.ntmps86
 go_wp2_with fail
 have HW5 := hide (HB5.out (.cells #[.pointer (some ⟨Pb, 0, none⟩)] 64) (.cells #[.int .i64 18, .int .i64 1, .int .i64 xa, .int .i64 xb, .int .i64 xc, .int .i64 xn] 53) (.cells #[.slice px xs.length cx] 25) (.cells #[.slice py xs.length cy] 25) (.cells #[.slice pz zs.length cz] 25))
 have q5 : (((((w.alloc (.cells #[.pointer (some ⟨Pb, 0, none⟩)] 64)).alloc (.cells #[.int .i64 18, .int .i64 1, .int .i64 xa, .int .i64 xb, .int .i64 xc, .int .i64 xn] 53)).alloc (.cells #[.slice px xs.length cx] 25)).alloc (.cells #[.slice py xs.length cy] 25)).alloc (.cells #[.slice pz zs.length cz] 25)).cell? ⟨w.heap.size, 0, none⟩ = some (.pointer (some ⟨Pb, 0, none⟩)) := by simp [go_sem]
 have q7 : (((((w.alloc (.cells #[.pointer (some ⟨Pb, 0, none⟩)] 64)).alloc (.cells #[.int .i64 18, .int .i64 1, .int .i64 xa, .int .i64 xb, .int .i64 xc, .int .i64 xn] 53)).alloc (.cells #[.slice px xs.length cx] 25)).alloc (.cells #[.slice py xs.length cy] 25)).alloc (.cells #[.slice pz zs.length cz] 25)).cell? ⟨w.heap.size + 1 + 1, 0, none⟩ = some (.slice px xs.length cx) := by simp [go_sem]
 have q8 : (((((w.alloc (.cells #[.pointer (some ⟨Pb, 0, none⟩)] 64)).alloc (.cells #[.int .i64 18, .int .i64 1, .int .i64 xa, .int .i64 xb, .int .i64 xc, .int .i64 xn] 53)).alloc (.cells #[.slice px xs.length cx] 25)).alloc (.cells #[.slice py xs.length cy] 25)).alloc (.cells #[.slice pz zs.length cz] 25)).cell? ⟨w.heap.size + 1 + 1 + 1, 0, none⟩ = some (.slice py xs.length cy) := by simp [go_sem]
 clear HB5
 generalize (((((w.alloc (.cells #[.pointer (some ⟨Pb, 0, none⟩)] 64)).alloc (.cells #[.int .i64 18, .int .i64 1, .int .i64 xa, .int .i64 xb, .int .i64 xc, .int .i64 xn] 53)).alloc (.cells #[.slice px xs.length cx] 25)).alloc (.cells #[.slice py xs.length cy] 25)).alloc (.cells #[.slice pz zs.length cz] 25)) = W5 at *
 go_region_held3 (fun w' => w'.cell? ⟨w.heap.size, 0, none⟩ = some (.pointer (some ⟨Pb, 0, none⟩)) ∧ w'.cell? ⟨w.heap.size + 1 + 1, 0, none⟩ = some (.slice px xs.length cx) ∧ w'.cell? ⟨w.heap.size + 1 + 1 + 1, 0, none⟩ = some (.slice py xs.length cy))
   (first | exact ⟨q5, q7, q8⟩ | exact hqAB | exact hqBA | exact hqA | exact hqB | exact hqC | go_keep)
   (first
     | (go_at_call 109; refine (HT.out _ GA GB (by first | exact hAB | exact hBA) (by first | exact laA | exact laA2) (by first | exact laB | exact laB2)).mono ?_; rintro e wC ⟨v2, rfl, hbs2, hg2⟩; have HF := hide (madeP_one (px := px) (x := lt) HH.out (by first | exact hAB | exact hBA) hbs2 hg2); have hqD := (by first | exact hqAB | exact hqBA); have hqC := And.intro (hg2.cell hqD.1 (HH.out.bm.new (by simp only; omega))) (And.intro (hg2.cell hqD.2.1 (HH.out.bm.new (by simp only; omega))) (hg2.cell hqD.2.2 (HH.out.bm.new (by simp only; omega)))))
     | (have _ := hqA; go_at_call_of 110 (Value.slice py xs.length cy); refine (HV.out _ hA).mono ?_; rintro e wB ⟨GB, rfl, hGB, hrB, hbB⟩; have hAB := bthen hA hbB; have hqAB := And.intro (cell_later hbB hqA.1) (And.intro (cell_later hbB hqA.2.1) (cell_later hbB hqA.2.2)); have laA2 := laA.later hbB; clear laA; have laB := la_row hrB (HH.out.bm.new (Nat.le_trans hA.size hGB)))
     | (have _ := hqB; go_at_call_of 110 (Value.slice px xs.length cx); refine (HU.out _ hB).mono ?_; rintro e wA ⟨GA, rfl, hGA, hrA, hbA⟩; have hBA := bthen hB hbA; have hqBA := And.intro (cell_later hbA hqB.1) (And.intro (cell_later hbA hqB.2.1) (cell_later hbA hqB.2.2)); have laB2 := laB.later hbA; clear laB; have laA := la_row hrA (HH.out.bm.new (Nat.le_trans hB.size hGA)))
     | (go_at_call_of 110 (Value.slice px xs.length cx); refine (HU.out _ HW5.out.drew).mono ?_; rintro e wA ⟨GA, rfl, hGA, hrA, hbA⟩; have hA := bthen HW5.out.drew hbA; have hqA := And.intro (cell_later hbA q5) (And.intro (cell_later hbA q7) (cell_later hbA q8)); have laA := la_row hrA (HH.out.bm.new (Nat.le_trans HW5.out.size hGA)))
     | (go_at_call_of 110 (Value.slice py xs.length cy); refine (HV.out _ HW5.out.drew).mono ?_; rintro e wB ⟨GB, rfl, hGB, hrB, hbB⟩; have hB := bthen HW5.out.drew hbB; have hqB := And.intro (cell_later hbB q5) (And.intro (cell_later hbB q7) (cell_later hbB q8)); have laB := la_row hrB (HH.out.bm.new (Nat.le_trans HW5.out.size hGB))))
 all_goals
   clear hbs2 hg2
   unfold MadeP at HF
   go_wp2
   go_ret
   obtain ⟨v9, p9, c9, e9, r9⟩ := HF.out
   exact ⟨v9, p9, c9, e9, r9⟩
end Go.Proofs.YtabnimgpednhjabGreat.Gg
