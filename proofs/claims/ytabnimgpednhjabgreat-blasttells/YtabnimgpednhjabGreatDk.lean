import Derived.Test.YtabnimgpednhjabGreatDiM
namespace Go.Proofs.YtabnimgpednhjabGreat.Gg
open Go.RowKit Go.Maps Go.WideMaps
set_option maxRecDepth 100000
theorem getD_at {l : List Int} {k : Nat} (h : k < l.length) : l.getD k 0 = l[k] := by rw [List.getD, List.getElem?_eq_getElem h]; rfl
theorem Vals.at' {n : Nat} {ps : Gr} {l : List Int} (h : Vals n ps l) (k : Nat) : Val n ps (l.getD k 0) := by
 by_cases hk : k < l.length
 · rw [getD_at hk]; exact h _ (List.getElem_mem hk)
 · rw [List.getD, List.getElem?_eq_none (by omega)]; exact val_no n ps
def samesG (n : Nat) (xs ys : List Int) (ps : Gr) : Nat → Int × Gr
 | 0 => (1, ps)
 | k + 1 => bothG n (samesG n xs ys ps k).1 (turn (differG n (xs.getD k 0) (ys.getD k 0) (samesG n xs ys ps k).2).1) (differG n (xs.getD k 0) (ys.getD k 0) (samesG n xs ys ps k).2).2
theorem same_does {n : Nat} {ps : Gr} (hg : chkE n ps = 0) {xs ys : List Int} (hx : Vals n ps xs) (hy : Vals n ps ys) : ∀ k, ps.length + 4 * k < 1000000 → Does n (4 * k) ps (samesG n xs ys ps k) (fun bs => (List.range k).all fun i => sem ps bs (xs.getD i 0) == sem ps bs (ys.getD i 0)) := by
 intro k
 induction k with
 | zero => intro _; exact ⟨Ext.refl hg, val_yes n ps, fun bs _ => sem_yes ps bs⟩
 | succ k ih =>
   intro hl
   have h1 := ih (by omega)
   have l1 := h1.ext.len.2
   have h2 := differ_does h1.ext.good (by omega) (h1.ext.val (hx.at' k)) (h1.ext.val (hy.at' k))
   have l2 := h2.ext.len.2
   have h3 := both_does h2.ext.good (by omega) (h2.ext.val h1.val) h2.val.turn
   refine ⟨((h1.ext.trans h2.ext).trans h3.ext).more (by omega), h3.val, fun bs hb => ?_⟩
   refine (h3.tells bs hb).trans ?_
   rw [sem_turn, h2.tells bs hb, h2.ext.same bs hb _ h1.val, h1.tells bs hb, h1.ext.same bs hb _ (hx.at' k), h1.ext.same bs hb _ (hy.at' k), List.range_succ, List.all_append]
   simp only [List.all_cons, List.all_nil, Bool.and_true]
   congr 1
   cases sem ps bs (xs.getD k 0) <;> cases sem ps bs (ys.getD k 0) <;> rfl
set_option maxHeartbeats 4000000 in
theorem same_any {w : World} {base Pb M B : Nat} {v : Value} {n : Nat} {ps : Gr} (h : Bs w base Pb M B v n ps) {xs ys : List Int} {px py : Option Addr} {cx cy : Nat} (hly : ys.length = xs.length) (hn : xs.length ≤ 8) (hl : ps.length + 100 < 1000000) (hvx : Vals n ps xs) (hvy : Vals n ps ys) (hX : LA w M B v px xs) (hY : LA w M B v py ys) :
   Calls Tryz.prog 108 #[.pointer (some ⟨Pb, 0, none⟩), .slice px xs.length cx, .slice py xs.length cy] w (Made w base Pb M B v n (samesG n xs ys ps xs.length)) := by
 obtain ⟨i1, _, _⟩ := h.ins
 have HD := hide (fun k (hk : k ≤ xs.length) => same_does h.good hvx hvy k (by omega))
 have HX := hide hX
 have HY := hide hY
 have HB0 := hide h
 have HVX := hide hvx
 have HVY := hide hvy
 unfold Made
 clear h hX hY hvx hvy
 go_enter Tryz.func108, Tryz.ntmps108
 go_wp2_with fail
 go_loopw [7, 11] (fun l i wr => ∃ (k : Nat) (v' : Value), k ≤ xs.length ∧ i = .int .i64 k ∧ l = .int .i64 (samesG n xs ys ps k).1 ∧ Hid (Bs wr base Pb M B v' n (samesG n xs ys ps k).2) ∧ Hid (Gon base M B w v wr v')) (fun _ i _ => xs.length - (intOf i).toNat)
 case atStart => exact ⟨0, v, Nat.zero_le _, rfl, rfl, HB0.out, Gon.refl⟩
 case round =>
   obtain ⟨k, v', hk, rfl, rfl, HB, HG⟩ := hrel
   by_cases hlt : k < xs.length
   · have hx := HX.out.gon HG.out
     have hy := HY.out.gon HG.out
     obtain ⟨gx, ox, rfl, hcx⟩ := hx.1 (by omega)
     obtain ⟨gy, oy, rfl, hcy⟩ := hy.1 (by omega)
     have x0 := hcx k hlt
     have y0 := hcy k (by omega)
     have HAX := hide (hx.2 _ _ rfl (by omega))
     have HAY := hide (hy.2 _ _ rfl (by omega))
     have e1 := HD.out k hk
     have l1 := e1.ext.len.2
     have vx : Val n ps xs[k] := HVX.out _ (List.getElem_mem hlt)
     have vy : Val n ps ys[k] := HVY.out _ (List.getElem_mem (by omega))
     have d2 := differ_does e1.ext.good (by omega) (e1.ext.val vx) (e1.ext.val vy)
     have l2 := d2.ext.len.2
     have HS : Hid (samesG n xs ys ps (k + 1) = bothG n (samesG n xs ys ps k).1 (turn (differG n xs[k] ys[k] (samesG n xs ys ps k).2).1) (differG n xs[k] ys[k] (samesG n xs ys ps k).2).2) := by rw [Hid, samesG, getD_at hlt, getD_at (by omega)]
     have H1 := hide (fun (w1 : World) (hb : Bs w1 base Pb M B v' n (samesG n xs ys ps k).2) => differ_any hb (by omega) (e1.ext.val vx) (e1.ext.val vy))
     have H2 := hide (turn_any (differG n xs[k] ys[k] (samesG n xs ys ps k).2).1 d2.val.1 (by have := d2.val.2; omega))
     have H3 := hide (fun (w1 : World) (v1 : Value) (hb : Bs w1 base Pb M B v1 n (differG n xs[k] ys[k] (samesG n xs ys ps k).2).2) => both_any hb (by omega) (d2.ext.val e1.val) d2.val.turn)
     have hki : (k : Int) < (xs.length : Int) := by omega
     unfold Made at H1 H3
     clear hcx hcy hx hy e1 d2 vx vy l1 l2 HD HVX HVY HB0
     generalize xs[k] = x at *
     generalize ys[k] = y at *
     obtain ⟨R3, hR3⟩ : ∃ R, samesG n xs ys ps (k + 1) = R := ⟨_, rfl⟩
     rw [hR3] at HS
     have HR3 := hide hR3
     clear hR3
     obtain ⟨L3, q3⟩ := R3
     generalize samesG n xs ys ps k = R1 at *
     obtain ⟨L1, q1⟩ := R1
     simp only at H1 H2 H3 HB HS
     generalize differG n x y q1 = R2 at *
     obtain ⟨L2, q2⟩ := R2
     simp only at H1 H2 H3 HS
     generalize turn L2 = tL at *
     rw [← HS.out] at H3
     simp only at H3
     clear HS
     go_wp2_with fail
     go_region_held3 (fun w' => w'.cell? ⟨gx, ox + k, none⟩ = some (.int .i64 x) ∧ w'.cell? ⟨gy, oy + k, none⟩ = some (.int .i64 y))
       (first | exact ⟨x0, y0⟩ | exact ⟨x5, y5⟩ | exact ⟨x3, y3⟩ | go_keep)
       (first
        | (go_at_call 101; refine (H1.out _ (HB.out.later (Below.refl _ _).drew)).mono ?_; rintro e w3 ⟨v3, rfl, hbs3, hgn3⟩; have x3 := hgn3.cell x0 HAX.out; have y3 := hgn3.cell y0 HAY.out; have ax3 := (hgn3.far _ (World.block_lt_of_cell? _ _ x0) HAX.out).2; have ay3 := (hgn3.far _ (World.block_lt_of_cell? _ _ y0) HAY.out).2)
        | (go_at_call 119; refine (H2.out _).mono ?_; rintro e w4 ⟨rfl, hw4⟩; obtain rfl : w3 = w4 := hw4.symm)
        | (go_at_call 97; refine (H3.out _ _ hbs3).mono ?_; rintro e w5 ⟨v5, rfl, hbs5, hgn5⟩; have x5 := hgn5.cell x3 ax3; have y5 := hgn5.cell y3 ay3))
     have HG5 := hide (HG.out.trans (((gon_quiet (base := base) (M := M) (B := B) (v := v') (Below.refl base wr).drew (Below.refl _ _).drew).trans hgn3).trans hgn5))
     have HB5 := hide hbs5
     rename_i hjunk
     clear hjunk hgn3 hgn5 hbs3 hbs5 x0 y0 x3 y3 x5 y5 ax3 ay3 H1 H2 H3 HB HG
     go_wp2_with fail
     go_roundw
     case rel => exact ⟨k + 1, v5, by omega, by go_num, by rw [HR3.out], by rw [HR3.out]; exact HB5, HG5⟩
     case measure => simp [intOf]; omega
   · obtain rfl : k = xs.length := by omega
     go_wp2
     go_ret
     exact ⟨v', rfl, HB.out, HG.out⟩
def lessG (n : Nat) (xs ys : List Int) (ps : Gr) : Nat → Int × Gr
 | 0 => (0, ps)
 | k + 1 =>
   let s := lessG n xs ys ps k
   let p := bothG n (turn (xs.getD k 0)) (ys.getD k 0) s.2
   let q := eitherG n (turn (xs.getD k 0)) (ys.getD k 0) p.2
   let r := bothG n q.1 s.1 q.2
   eitherG n p.1 r.1 r.2
def lessB (xs ys : List Bool) : Nat → Bool
 | 0 => false
 | k + 1 => (!xs.getD k false && ys.getD k false) || ((!xs.getD k false || ys.getD k false) && lessB xs ys k)
theorem sems_at {ps : Gr} {bs : List Bool} {l : List Int} (k : Nat) : (sems ps bs l).getD k false = sem ps bs (l.getD k 0) := by
 unfold sems
 by_cases h : k < l.length
 · rw [getD_at h, List.getD, List.getElem?_eq_getElem (by simpa using h)]; simp
 · rw [List.getD, List.getElem?_eq_none (by simpa using h), List.getD, List.getElem?_eq_none (by omega)]
   exact (sem_no ps bs).symm
theorem less_does {n : Nat} {ps : Gr} (hg : chkE n ps = 0) {xs ys : List Int} (hx : Vals n ps xs) (hy : Vals n ps ys) : ∀ k, ps.length + 4 * k < 1000000 → Does n (4 * k) ps (lessG n xs ys ps k) (fun bs => lessB (sems ps bs xs) (sems ps bs ys) k) := by
 intro k
 induction k with
 | zero => intro _; exact ⟨Ext.refl hg, val_no n ps, fun bs _ => sem_no ps bs⟩
 | succ k ih =>
   intro hl
   have h1 := ih (by omega)
   have l1 := h1.ext.len.2
   have tx := (h1.ext.val (hx.at' k)).turn
   have ty := h1.ext.val (hy.at' k)
   have h2 := both_does h1.ext.good (by omega) tx ty
   have l2 := h2.ext.len.2
   have h3 := either_does h2.ext.good (by omega) (h2.ext.val tx) (h2.ext.val ty)
   have l3 := h3.ext.len.2
   have e23 := h2.ext.trans h3.ext
   have h4 := both_does h3.ext.good (by omega) h3.val (e23.val h1.val)
   have l4 := h4.ext.len.2
   have h5 := either_does h4.ext.good (by omega) ((h3.ext.trans h4.ext).val h2.val) h4.val
   refine ⟨((h1.ext.trans (e23.trans h4.ext)).trans h5.ext).more (by omega), h5.val, fun bs hb => ?_⟩
   refine (h5.tells bs hb).trans ?_
   rw [h4.tells bs hb, (h3.ext.trans h4.ext).same bs hb _ h2.val, h2.tells bs hb, h3.tells bs hb, e23.same bs hb _ h1.val, h1.tells bs hb, h2.ext.same bs hb _ tx, h2.ext.same bs hb _ ty, sem_turn, h1.ext.same bs hb _ (hx.at' k), h1.ext.same bs hb _ (hy.at' k)]
   show _ = lessB _ _ (k + 1)
   rw [lessB, sems_at, sems_at]
set_option maxHeartbeats 4000000 in
theorem less_any {w : World} {base Pb M B : Nat} {v : Value} {n : Nat} {ps : Gr} (h : Bs w base Pb M B v n ps) {xs ys : List Int} {px py : Option Addr} {cx cy : Nat} (hly : ys.length = xs.length) (hn : xs.length ≤ 8) (hl : ps.length + 100 < 1000000) (hvx : Vals n ps xs) (hvy : Vals n ps ys) (hX : LA w M B v px xs) (hY : LA w M B v py ys) :
   Calls Tryz.prog 109 #[.pointer (some ⟨Pb, 0, none⟩), .slice px xs.length cx, .slice py xs.length cy] w (Made w base Pb M B v n (lessG n xs ys ps xs.length)) := by
 obtain ⟨i1, _, _⟩ := h.ins
 have HD := hide (fun k (hk : k ≤ xs.length) => less_does h.good hvx hvy k (by omega))
 have HX := hide hX
 have HY := hide hY
 have HB0 := hide h
 have HVX := hide hvx
 have HVY := hide hvy
 unfold Made
 clear h hX hY hvx hvy
 go_enter Tryz.func109, Tryz.ntmps109
 go_wp2_with fail
 go_loopw [7, 12] (fun l i wr => ∃ (k : Nat) (v' : Value), k ≤ xs.length ∧ i = .int .i64 k ∧ l = .int .i64 (lessG n xs ys ps k).1 ∧ Hid (Bs wr base Pb M B v' n (lessG n xs ys ps k).2) ∧ Hid (Gon base M B w v wr v')) (fun _ i _ => xs.length - (intOf i).toNat)
 case atStart => exact ⟨0, v, Nat.zero_le _, rfl, rfl, HB0.out, Gon.refl⟩
 case round =>
   obtain ⟨k, v', hk, rfl, rfl, HB, HG⟩ := hrel
   by_cases hlt : k < xs.length
   · have hx := HX.out.gon HG.out
     have hy := HY.out.gon HG.out
     obtain ⟨gx, ox, rfl, hcx⟩ := hx.1 (by omega)
     obtain ⟨gy, oy, rfl, hcy⟩ := hy.1 (by omega)
     have x0 := hcx k hlt
     have y0 := hcy k (by omega)
     have HAY := hide (hy.2 _ _ rfl (by omega))
     have e1 := HD.out k hk
     have l1 := e1.ext.len.2
     have vx0 : Val n ps xs[k] := HVX.out _ (List.getElem_mem hlt)
     have vx := (e1.ext.val vx0).turn
     have vy : Val n (lessG n xs ys ps k).2 ys[k] := e1.ext.val (HVY.out _ (List.getElem_mem (by omega)))
     have d2 := both_does e1.ext.good (by omega) vx vy
     have l2 := d2.ext.len.2
     have d3 := either_does d2.ext.good (by omega) (d2.ext.val vx) (d2.ext.val vy)
     have l3 := d3.ext.len.2
     have d4 := both_does d3.ext.good (by omega) d3.val ((d2.ext.trans d3.ext).val e1.val)
     have l4 := d4.ext.len.2
     have HT := hide (turn_any xs[k] vx0.1 (by have := vx0.2; omega))
     have H1 := hide (fun (w1 : World) (v1 : Value) (hb : Bs w1 base Pb M B v1 n (lessG n xs ys ps k).2) => both_any hb (by omega) vx vy)
     have H2 := hide (fun (w1 : World) (v1 : Value) (hb : Bs w1 base Pb M B v1 n (bothG n (turn xs[k]) ys[k] (lessG n xs ys ps k).2).2) => either_any hb (by omega) (d2.ext.val vx) (d2.ext.val vy))
     have H3 := hide (fun (w1 : World) (v1 : Value) (hb : Bs w1 base Pb M B v1 n (eitherG n (turn xs[k]) ys[k] (bothG n (turn xs[k]) ys[k] (lessG n xs ys ps k).2).2).2) => both_any hb (by omega) d3.val ((d2.ext.trans d3.ext).val e1.val))
     have H4 := hide (fun (w1 : World) (v1 : Value) (hb : Bs w1 base Pb M B v1 n (bothG n (eitherG n (turn xs[k]) ys[k] (bothG n (turn xs[k]) ys[k] (lessG n xs ys ps k).2).2).1 (lessG n xs ys ps k).1 (eitherG n (turn xs[k]) ys[k] (bothG n (turn xs[k]) ys[k] (lessG n xs ys ps k).2).2).2).2) => either_any hb (by omega) ((d3.ext.trans d4.ext).val d2.val) d4.val)
     have HS : Hid (lessG n xs ys ps (k + 1) = eitherG n (bothG n (turn xs[k]) ys[k] (lessG n xs ys ps k).2).1 (bothG n (eitherG n (turn xs[k]) ys[k] (bothG n (turn xs[k]) ys[k] (lessG n xs ys ps k).2).2).1 (lessG n xs ys ps k).1 (eitherG n (turn xs[k]) ys[k] (bothG n (turn xs[k]) ys[k] (lessG n xs ys ps k).2).2).2).1 (bothG n (eitherG n (turn xs[k]) ys[k] (bothG n (turn xs[k]) ys[k] (lessG n xs ys ps k).2).2).1 (lessG n xs ys ps k).1 (eitherG n (turn xs[k]) ys[k] (bothG n (turn xs[k]) ys[k] (lessG n xs ys ps k).2).2).2).2) := by rw [Hid, lessG, getD_at hlt, getD_at (by omega)]
     have hki : (k : Int) < (xs.length : Int) := by omega
     unfold Made at H1 H2 H3 H4
     clear hcx hcy hx hy e1 d2 d3 d4 vx vx0 vy l1 l2 l3 l4 HD HVX HVY HB0
     generalize xs[k] = x at *
     generalize ys[k] = y at *
     obtain ⟨R5, hR5⟩ : ∃ R, lessG n xs ys ps (k + 1) = R := ⟨_, rfl⟩
     rw [hR5] at HS
     have HR5 := hide hR5
     clear hR5
     obtain ⟨L5, q5⟩ := R5
     generalize lessG n xs ys ps k = R1 at *
     obtain ⟨L1, q1⟩ := R1
     simp only at H1 H2 H3 H4 HB HS
     generalize turn x = tx at *
     generalize bothG n tx y q1 = R2 at *
     obtain ⟨L2, q2⟩ := R2
     simp only at H1 H2 H3 H4 HS
     generalize eitherG n tx y q2 = R3 at *
     obtain ⟨L3, q3⟩ := R3
     simp only at H2 H3 H4 HS
     generalize bothG n L3 L1 q3 = R4 at *
     obtain ⟨L4, q4⟩ := R4
     simp only at H3 H4 HS
     rw [← HS.out] at H4
     simp only at H4
     clear HS
     go_wp2_with fail
     refine (HT.out _).mono ?_
     rintro e w2 ⟨rfl, hw2⟩
     obtain rfl : wr = w2 := hw2.symm
     go_wp2_with fail
     go_region_held3 (fun w' => w'.cell? ⟨gy, oy + k, none⟩ = some (.int .i64 y))
       (first | exact y0 | exact y6 | exact y5 | exact y4 | exact y3 | go_keep)
       (first
        | (have _ := hbs5; go_at_call 99; refine (H4.out _ _ hbs5).mono ?_; rintro e w6 ⟨v6, rfl, hbs6, hgn6⟩; have y6 := hgn6.cell y5 a5)
        | (have _ := hbs4; go_at_call 97; refine (H3.out _ _ hbs4).mono ?_; rintro e w5 ⟨v5, rfl, hbs5, hgn5⟩; have y5 := hgn5.cell y4 a4; have a5 := (hgn5.far _ (World.block_lt_of_cell? _ _ y4) a4).2)
        | (have _ := hbs3; go_at_call 99; refine (H2.out _ _ hbs3).mono ?_; rintro e w4 ⟨v4, rfl, hbs4, hgn4⟩; have y4 := hgn4.cell y3 a3; have a4 := (hgn4.far _ (World.block_lt_of_cell? _ _ y3) a3).2)
        | (go_at_call 97; refine (H1.out _ _ (HB.out.later (Below.refl _ _).drew)).mono ?_; rintro e w3 ⟨v3, rfl, hbs3, hgn3⟩; have y3 := hgn3.cell y0 HAY.out; have a3 := (hgn3.far _ (World.block_lt_of_cell? _ _ y0) HAY.out).2))
     have HG6 := hide (HG.out.trans (((gon_quiet (base := base) (M := M) (B := B) (v := v') (Below.refl base wr).drew (Below.refl _ _).drew).trans hgn3).trans (hgn4.trans (hgn5.trans hgn6))))
     have HB6 := hide hbs6
     rename_i hjunk
     clear hjunk hgn3 hgn4 hgn5 hgn6 hbs3 hbs4 hbs5 hbs6 y0 y3 y4 y5 y6 a3 a4 a5 H1 H2 H3 H4 HB HG
     go_wp2_with fail
     go_roundw
     case rel => exact ⟨k + 1, v6, by omega, by go_num, by rw [HR5.out], by rw [HR5.out]; exact HB6, HG6⟩
     case measure => simp [intOf]; omega
   · obtain rfl : k = xs.length := by omega
     go_wp2
     go_ret
     exact ⟨v', rfl, HB.out, HG.out⟩
def atL (l : List Int) (i : Int) : Int := if 0 ≤ i ∧ i < l.length then l.getD i.toNat 0 else 0
set_option maxHeartbeats 2000000 in
theorem at_any (l : List Int) (p : Option Addr) (cap : Nat) (i : Int) (w : World) (hI : IntsAt w p l) :
   Calls Tryz.prog 106 #[.slice p l.length cap, .int .i64 i] w fun e w' => e = .returned (.int .i64 (atL l i)) ∧ w' = w := by
 by_cases h0 : i < 0
 · have HE : Hid (atL l i = 0) := by unfold atL; rw [if_neg (by omega)]; exact rfl
   rw [HE.out]
   go_enter Tryz.func106, Tryz.ntmps106
   go_wp2
   go_ret
   exact ⟨rfl, rfl⟩
 · by_cases h1 : i < (l.length : Int)
   · obtain ⟨b, off, rfl, hc⟩ := hI (by omega)
     obtain ⟨k, rfl⟩ : ∃ k : Nat, i = k := ⟨i.toNat, by omega⟩
     have hk : k < l.length := by omega
     have c0 := hc k hk
     have HE : Hid (atL l (k : Int) = l[k]) := by unfold atL; rw [if_pos (by omega), Int.toNat_natCast, getD_at hk]; exact rfl
     rw [HE.out]
     have h1' : ¬ (l.length : Int) ≤ (k : Int) := by omega
     clear hc hI
     generalize l[k] = x at *
     go_enter Tryz.func106, Tryz.ntmps106
     go_wp2
     go_ret
     exact ⟨rfl, rfl⟩
   · have HE : Hid (atL l i = 0) := by unfold atL; rw [if_neg (by omega)]; exact rfl
     have h1' : (l.length : Int) ≤ i := by omega
     rw [HE.out]
     go_enter Tryz.func106, Tryz.ntmps106
     go_wp2
     go_ret
     exact ⟨rfl, rfl⟩
end Go.Proofs.YtabnimgpednhjabGreat.Gg
