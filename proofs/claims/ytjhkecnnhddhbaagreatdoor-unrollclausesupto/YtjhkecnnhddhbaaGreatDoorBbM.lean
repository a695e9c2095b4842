/- The plain texts of steps: the clauses of all ands. -/
import Derived.Test.YtjhkecnnhddhbaaGreatDoorTdM
import Derived.Test.YtjhkecnnhddhbaaGreatDoorKcM
namespace Go.Proofs.YtjhkecnnhddhbaaGreatDoor
open Go.RowKit Go.Maps Go.WideMaps
set_option maxRecDepth 100000
theorem numP_bd (x off : Int) (h : 0 ≤ x) (h2 : x ≤ 10000000) (h3 : 0 ≤ off) (h4 : off ≤ 10000000) : -20000000 ≤ numP x off ∧ numP x off ≤ 20000000 := by
 unfold numP
 split <;> omega
theorem andP_succ (ins off : Int) (ps : List (Int × Int)) (k : Nat) (h : k < ps.length) : andP ins off ps (k + 1) = andP ins off ps k ++ andOne (1 + ins + k + off) (numP ps[k].1 off) (numP ps[k].2 off) := by
 rw [andP, List.getElem?_eq_getElem h]
theorem andP_len (ins off : Int) (ps : List (Int × Int)) (k : Nat) (h : k ≤ ps.length) : (andP ins off ps k).length = 3 * k := by
 induction k with
 | zero => rfl
 | succ k ih => rw [andP_succ _ _ _ _ (by omega), List.length_append, ih (by omega)]; simp [andOne]; omega
set_option maxHeartbeats 8000000 in
theorem andsP_any (ins : Int) (p : Option Addr) (ps : List (Int × Int)) (cap : Nat) (off : Int) (hi0 : 0 ≤ ins) (hi1 : ins ≤ 1000) (hpl : ps.length ≤ 1000001)
   (hbd : ∀ k (h : k < ps.length), (0 ≤ ps[k].1 ∧ ps[k].1 ≤ 10000000) ∧ 0 ≤ ps[k].2 ∧ ps[k].2 ≤ 10000000) (h3 : 0 ≤ off) (h4 : off ≤ 10000000) (w : World) (hP : PairsAt w p ps) :
   Calls Tryz.prog 25 #[.agg #[.int .i64 ins, .slice p ps.length cap], .int .i64 off] w (NewRows w (andP ins off ps ps.length)) := by
 obtain ⟨i0, hi, hz0, hz1, hz2⟩ := info_parts infoR
 have HIN := hide (And.intro hi (And.intro hz0 (And.intro hz1 hz2)))
 clear hi hz0 hz1 hz2
 have HBD := hide hbd
 have hb1 : Below w.heap.size w (w.alloc (.cells #[.int .i64 ins, .slice p ps.length cap] 24)) := bal (Below.refl _ _) _
 have HP := hide (hP.later hb1)
 have HB1 := hide hb1
 have b0 : (w.alloc (.cells #[.int .i64 ins, .slice p ps.length cap] 24)).cell? ⟨w.heap.size, 0, none⟩ = some (.int .i64 ins) := by simp [go_sem]
 have b1 : (w.alloc (.cells #[.int .i64 ins, .slice p ps.length cap] 24)).cell? ⟨w.heap.size, 1, none⟩ = some (.slice p ps.length cap) := by simp [go_sem]
 have HS1 : Hid (w.heap.size ≤ (w.alloc (.cells #[.int .i64 ins, .slice p ps.length cap] 24)).heap.size) := hb1.size
 have HSU : Hid (∀ k (h : k < ps.length), andP ins off ps (k + 1) = andP ins off ps k ++ andOne (1 + ins + k + off) (numP ps[k].1 off) (numP ps[k].2 off)) := fun k h => andP_succ ins off ps k h
 have HLN : Hid (∀ k, k ≤ ps.length → (andP ins off ps k).length = 3 * k) := fun k h => andP_len ins off ps k h
 have HNP : Hid (∀ x, 0 ≤ x ∧ x ≤ 10000000 → ∀ w, Calls Tryz.prog 26 #[.int .i64 x, .int .i64 off] w fun e w' => e = .returned (.int .i64 (numP x off)) ∧ w' = w) := fun x h w => numP_any x off h.1 h.2 h3 h4 w
 clear hbd hP hb1
 go_enter Tryz.func25, Tryz.ntmps25
 go_wp2
 generalize w.alloc (.cells #[.int .i64 ins, .slice p ps.length cap] 24) = w1 at *
 go_loopw [5, 6] (fun o i wr => ∃ k : Nat, k ≤ ps.length ∧ i = .int .i64 k ∧ Hid (∃ rs, rs.map Row.ns = andP ins off ps k ∧ Gr wr w1.heap.size o rs ∧ Below w1.heap.size w1 wr)) (fun _ i _ => ps.length - (intOf i).toNat)
 case atStart => exact ⟨0, Nat.zero_le _, rfl, [], rfl, gr_nil _ _, Below.refl _ _⟩
 case round =>
   obtain ⟨k, hk, rfl, HR⟩ := hrel
   obtain ⟨rs, hn, hgr, hbl⟩ := HR.out
   have d0 := cell_later hbl b0
   have d1 := cell_later hbl b1
   by_cases hlt : k < ps.length
   · have hki : (k : Int) < (ps.length : Int) := by omega
     obtain ⟨gb, goff, hge, hgc⟩ := (HP.out.later hbl) (by omega)
     obtain ⟨gk0, gk1⟩ := hgc k hlt
     subst hge
     have hSK := HSU.out k hlt
     have hB := HBD.out k hlt
     have hln : rs.length ≤ 3000003 := by
       have : rs.length = 3 * k := by rw [← HLN.out k hk, ← hn, List.length_map]
       omega
     have hna := numP_bd ps[k].1 off hB.1.1 hB.1.2 h3 h4
     have hnb := numP_bd ps[k].2 off hB.2.1 hB.2.2 h3 h4
     have HNQ := hide (show ∀ x, (x = ps[k].1 ∨ x = ps[k].2) → ∀ w, Calls Tryz.prog 26 #[.int .i64 x, .int .i64 off] w fun e w' => e = .returned (.int .i64 (numP x off)) ∧ w' = w from fun x hx w => HNP.out x (by rcases hx with rfl | rfl; exact hB.1; exact hB.2) w)
     have HSK := hide hSK
     have HN := hide hn
     have HGR := hide hgr
     have HBL := hide hbl
     generalize ps[k].1 = a at *
     generalize ps[k].2 = b at *
     have q1 := wrap_id (x := 1 + ins) (by omega) (by omega)
     have q2 := wrap_id (x := 1 + ins + (k : Int)) (by omega) (by omega)
     have q3 := wrap_id (x := 1 + ins + (k : Int) + off) (by omega) (by omega)
     have q4 := wrap_id (x := -(1 + ins + (k : Int) + off)) (by omega) (by omega)
     have q5 := wrap_id (x := -numP a off) (by omega) (by omega)
     have q6 := wrap_id (x := -numP b off) (by omega) (by omega)
     clear hSK hB hn hgr hbl HR hgc
     go_wp2
     go_quiet ((go_at_call 26; refine Calls.quiet_of_same (HNQ.out _ (by first | exact Or.inl rfl | exact Or.inr rfl) _)))
     generalize numP a off = ya at *
     generalize numP b off = yb at *
     have hbq : Below wr.heap.size wr (wr.drewN nq) := bdn (Below.refl _ _) nq
     have HGQ : Hid (Gr (wr.drewN nq) w1.heap.size u5 rs) := ⟨HGR.out.row, HGR.out.inn.later hbq, HGR.out.far⟩
     have HBQ : Hid (Below w1.heap.size w1 (wr.drewN nq)) := bthen HBL.out hbq
     have hsq : w1.heap.size ≤ (wr.drewN nq).heap.size := HBQ.out.size
     clear hbq HGR HBL d0 d1 gk0 gk1 HNQ
     generalize wr.drewN nq = wq at *
     have HG3 := hide (HGQ.out.lay3 (1 + ins + (k : Int) + off) ya yb)
     generalize hnn : 1 + ins + (k : Int) + off = n at *
     go_wp2_with (at_builtin; refine wpList_append_lies _ rfl _ _ 28 rfl w1.heap.size 25 i0 (.slice none 0 0) 1 24 Tryz.underlying28 HIN.out.1 HIN.out.2.1 HIN.out.2.2.1 HIN.out.2.2.2 rfl (by decide) u5 rs.length (rs.map Row.v) rfl HG3.out.row ⟨wq.heap.size + 1 + 1 + 1, 0, none⟩ 3 3 ((rows3 wq.heap.size n ya yb).map Row.v) rfl rfl ?e0 ?e1 (by omega) ?e2 ?e3 ?e4 (wq.heap.size + 4) ?e5 ?_)
     case e0 => exact lay3_news wq n ya yb
     case e1 => exact rows3_cell _ n ya yb
     case e2 => unfold maxLen; omega
     case e3 => omega
     case e4 => simp; omega
     case e5 => simp
     intro g cap2 w5 hown hg hat hlt5
     have HR5 : Hid (∃ rs', rs'.map Row.ns = andP ins off ps (k + 1) ∧ Gr w5 w1.heap.size (.slice (some ⟨g, 0, none⟩) (rs.length + 3) cap2) rs' ∧ Below w1.heap.size w1 w5) :=
       ⟨rs ++ rows3 wq.heap.size n ya yb, by rw [List.map_append, HN.out, HSK.out, rows3_ns], gr_three hsq HGQ.out n ya yb hg hown hat, gr_three_below HGQ.out n ya yb hg HBQ.out hsq⟩
     clear hown hg hat hlt5 HG3 HGQ HBQ HN HSK
     go_wp2
     go_roundw
     case rel => exact ⟨k + 1, by omega, by go_num, HR5⟩
     case measure => simp [intOf]; omega
   · obtain rfl : k = ps.length := by omega
     have HGN : Hid (NewRows w (andP ins off ps ps.length) (.returned u5) wr) := by
       have := gr_new (w := w) hgr (HB1.out.trans (hbl.mono HS1.out)) HS1.out
       rw [hn] at this
       exact this
     clear HR hn hgr hbl
     go_wp2
     go_ret
     exact HGN.out
end Go.Proofs.YtjhkecnnhddhbaaGreatDoor

namespace Go.Proofs.YtjhkecnnhddhbaaGreatDoor
theorem andP_T (C : Ci) (t k : Nat) (hk : k ≤ C.ps.length) (h2 : ∀ i (h : i < C.ps.length), 2 ≤ C.ps[i].1 ∧ 2 ≤ C.ps[i].2) :
   andP C.ins (t * C.f) C.ps k = andsT C t k := by
 induction k with
 | zero => rfl
 | succ k ih =>
   have h := h2 k (by omega)
   rw [andP_succ _ _ _ _ (by omega), andsT_succ _ _ _ (by omega), ih (by omega), numP_at _ _ _ h.1, numP_at _ _ _ h.2, show 1 + C.ins + (k : Int) + (t : Int) * C.f = (t : Int) * C.f + 1 + C.ins + k by omega]
   rfl
theorem mustP_T (f : Int) (t : Nat) (x : Int) (hx : 0 ≤ x) (hf : 0 ≤ (t : Int) * f) : mustP x (t * f) = rootC (atL f t x) := by
 unfold mustP rootC
 by_cases h1 : x = 1
 · subst h1
   rw [if_pos rfl, if_pos (by unfold atL; rw [if_pos (by decide)])]
 · by_cases h0 : x = 0
   · subst h0
     have e : atL f t 0 = 0 := by unfold atL; rw [if_pos (by decide)]
     rw [e, if_neg (by decide), if_pos rfl]
     rfl
   · have e : atL f t x = x + 2 * (t * f) := by unfold atL; rw [if_neg (by omega)]
     rw [if_neg h1, if_neg h0, numP_at f t x (by omega), if_neg (by omega), if_neg (by omega)]
end Go.Proofs.YtjhkecnnhddhbaaGreatDoor

namespace Go.Proofs.YtjhkecnnhddhbaaGreatDoor
open Go.RowKit Go.Maps Go.WideMaps
set_option maxRecDepth 100000
def stE (e : Int) (begun : Bool) (l : List Int) : Int := if e ≠ 0 then e else if (begun && l.any fun x => decide (1 < x)) = true then 7 else 0
theorem stE_nil (e : Int) (begun : Bool) : stE e begun [] = e := by
 unfold stE
 by_cases h : e = 0 <;> simp [h]
theorem stE_stay {e : Int} {begun : Bool} {l : List Int} {k : Nat} (h : ¬ stE e begun (l.take k) = 0) : stE e begun l = stE e begun (l.take k) := by
 unfold stE at *
 by_cases h0 : e = 0
 · subst h0
   simp only [ne_eq, not_true_eq_false, if_false] at *
   by_cases h1 : (begun && (l.take k).any fun x => decide (1 < x)) = true
   · have h2 : (begun && l.any fun x => decide (1 < x)) = true := by
       simp only [Bool.and_eq_true, List.any_eq_true] at *
       obtain ⟨hb, x, hx, h⟩ := h1
       exact ⟨hb, x, List.mem_of_mem_take hx, h⟩
     rw [if_pos h1, if_pos h2]
   · rw [if_neg h1] at h; exact absurd rfl h
 · rw [if_pos h0, if_pos h0]
theorem stE_step {e : Int} {begun : Bool} {l : List Int} {k : Nat} (hk : k < l.length) (h : stE e begun (l.take k) = 0) : stE e begun (l.take (k + 1)) = if (begun && decide (1 < l[k])) = true then 7 else 0 := by
 unfold stE at *
 by_cases h0 : e = 0
 · subst h0
   simp only [ne_eq, not_true_eq_false, if_false] at *
   by_cases h1 : (begun && (l.take k).any fun x => decide (1 < x)) = true
   · rw [if_pos h1] at h; cases h
   · rw [List.take_succ_eq_append_getElem hk, List.any_append]
     cases begun
     · rfl
     · have h2 : ((l.take k).any fun x => decide (1 < x)) = false := by simpa using h1
       rw [h2]
       simp
 · rw [if_pos h0] at h; exact absurd h h0
end Go.Proofs.YtjhkecnnhddhbaaGreatDoor

namespace Go.Proofs.YtjhkecnnhddhbaaGreatDoor
open Go.RowKit Go.Maps Go.WideMaps
set_option maxRecDepth 100000
theorem lits_not (e : Int) (ls : List Int) : ls.all (isLit e) = !ls.any (noLit e) := by
 induction ls with
 | nil => rfl
 | cons a l ih => simp only [List.all_cons, List.any_cons, ih, isLit]; cases noLit e a <;> simp
theorem wrap_far {a s ins : Int} (ha : 0 ≤ a) (ha2 : a ≤ 9223372036854775807) (hs : 0 ≤ s) (hs2 : s ≤ 9223372036854775807) (h0 : 0 ≤ ins) (h1 : ins ≤ 1000) (h : a + s ≠ ins) : (IntKind.i64.wrap (a + s) != ins) = true := by
 rw [IntKind.wrap_i64]
 simp
 omega
set_option maxHeartbeats 8000000 in
theorem plainB_any (ins : Int) (p : Option Addr) (cap : Nat) (ps : List (Int × Int)) (hwf : WfP ps) (hl : ps.length ≤ 8796093022208) (a s : Int) (ha : Wf a) (hs : Wf s) (i n b h : Sl) (hli : i.ns.length ≤ maxLen) (hln : n.ns.length ≤ maxLen) (hlb : b.ns.length ≤ maxLen) (hlh : h.ns.length ≤ maxLen) (w : World) (hC : CirAt w p ps i n b h) :
   Calls Tryz.prog 20 #[circ ins p ps.length cap a s i n b h] w fun e w' => e = .returned (.int .i64 (cirE ins ps a s i.ns n.ns b.ns h.ns)) ∧ Below w.heap.size w w' := by
 have hB0 : Below w.heap.size w (w.alloc (.cells (circC ins p ps.length cap a s i n b h) 27)) := bal (Below.refl _ _) _
 have HC := hide (checkGraph_any ins p cap ps hwf hl _ (hC.g.later hB0))
 have HK := hide hC
 unfold maxLen at hli hln hlb hlh
 clear hC hwf
 by_cases hc : chkE ins ps = 0
 · obtain ⟨h0, h1, hlen, _, _⟩ := chk_zero hc
   have HE : Hid (cirE ins ps a s i.ns n.ns b.ns h.ns = if a < 0 ∨ s < 0 ∨ a + s ≠ ins then 4 else if (i.ns.length : Int) ≠ s ∨ (n.ns.length : Int) ≠ s then 1 else if (i.ns.any (badI (2 * (1 + ins + ps.length))) || n.ns.any (noLit (2 * (1 + ins + ps.length))) || b.ns.any (noLit (2 * (1 + ins + ps.length))) || h.ns.any (noLit (2 * (1 + ins + ps.length)))) = true then 5 else 0) := by unfold cirE; rw [if_neg (by simpa using hc)]; rfl
   rw [hc] at HC
   clear hc
   generalize cirE ins ps a s i.ns n.ns b.ns h.ns = R at *
   go_enter Tryz.func20, Tryz.ntmps20
   go_wp2_with fail
   refine HC.out.mono ?_
   rintro e w1 ⟨rfl, hb1⟩
   have HB1 := hide (bthen hB0 hb1)
   have q0 := cell_later hb1 (a := ⟨w.heap.size, 0, none⟩) (v := .int .i64 ins) (by simp [go_sem])
   have q1 := cell_later hb1 (a := ⟨w.heap.size, 1, none⟩) (v := .slice p ps.length cap) (by simp [go_sem])
   have q2 := cell_later hb1 (a := ⟨w.heap.size, 2, none⟩) (v := .int .i64 a) (by simp [go_sem])
   have q3 := cell_later hb1 (a := ⟨w.heap.size, 3, none⟩) (v := .int .i64 s) (by simp [go_sem])
   have q4 := cell_later hb1 (a := ⟨w.heap.size, 4, none⟩) (v := i.v) (by simp [go_sem])
   have q5 := cell_later hb1 (a := ⟨w.heap.size, 5, none⟩) (v := n.v) (by simp [go_sem])
   have q6 := cell_later hb1 (a := ⟨w.heap.size, 6, none⟩) (v := b.v) (by simp [go_sem])
   have q7 := cell_later hb1 (a := ⟨w.heap.size, 7, none⟩) (v := h.v) (by simp [go_sem])
   obtain ⟨ia, il, ic⟩ := i
   obtain ⟨na, nl, nc⟩ := n
   obtain ⟨ba, bl, bc⟩ := b
   obtain ⟨ga, gl, gc⟩ := h
   simp only [Sl.v] at *
   have HW := hide ha
   have HWS := hide hs
   clear hb1 hB0 HC ha hs
   by_cases ha0 : a < 0
   · have HX : Hid (R = 4) := by rw [HE.out, if_pos (Or.inl ha0)]; rfl
     clear HE
     go_wp2
     go_ret
     exact ⟨ret_int HX.out.symm, HB1.out⟩
   · by_cases hs0 : s < 0
     · have HX : Hid (R = 4) := by rw [HE.out, if_pos (Or.inr (Or.inl hs0))]; rfl
       clear HE
       go_wp2
       go_ret
       exact ⟨ret_int HX.out.symm, HB1.out⟩
     · by_cases hsum : a + s = ins
       · have hw := wrap_id (x := a + s) (by omega) (by omega)
         have hne : (a + s != ins) = false := by simpa using hsum
         rw [if_neg (by omega)] at HE
         by_cases hi : (il.length : Int) = s
         · by_cases hn : (nl.length : Int) = s
           · rw [if_neg (by omega)] at HE
             have hi' : ((il.length : Int) != s) = false := by simpa using hi
             have hn' : ((nl.length : Int) != s) = false := by simpa using hn
             have HLT := hide (fun (x : Int) (w' : World) => isLit_any ins p ps.length cap x h0 h1 (by omega) w')
             have HH := hide (fun (l : List Int) (q : Option Addr) (qc : Nat) (hl : l.length ≤ maxLen) (w' : World) (hI : IntsAt w' q l) => by
               have := areLits_any ins p ps.length cap h0 h1 (by omega) l q qc hl w' hI
               rw [lits_not] at this
               exact this)
             clear hi hn
             go_wp2
             go_loopw [4] (fun j wr => ∃ k : Nat, k ≤ il.length ∧ j = .int .i64 k ∧ Hid (∀ i (hi : i < il.length), i < k → badI (2 * (1 + ins + ps.length)) il[i] = false) ∧ Hid (Below w1.heap.size w1 wr)) (fun j _ => il.length - (intOf j).toNat)
             case atStart => exact ⟨0, Nat.zero_le _, rfl, fun i hi h => by omega, Below.refl _ _⟩
             case round =>
               obtain ⟨k, hk, rfl, hno, HR⟩ := hrel
               have p0 := cell_later HR.out q0
               have p1 := cell_later HR.out q1
               have p4 := cell_later HR.out q4
               have HBW := hide (bthen HB1.out HR.out)
               by_cases hlt : k < il.length
               · obtain ⟨ib, io, rfl, hic⟩ := (HK.out.i.later HBW.out) (by simp; omega)
                 have hck := hic k hlt
                 simp only at hck
                 have hki : (k : Int) < (il.length : Int) := by omega
                 have HN : Hid (badI (2 * (1 + ins + ps.length)) il[k] = false → ∀ i (hi : i < il.length), i < k + 1 → badI (2 * (1 + ins + ps.length)) il[i] = false) := by
                   intro hf i hi h
                   rcases Nat.lt_succ_iff_lt_or_eq.1 h with h1 | rfl
                   · exact hno.out i hi h1
                   · exact hf
                 have HY : Hid (badI (2 * (1 + ins + ps.length)) il[k] = true → R = 5) := fun hf => by
                   have : il.any (badI (2 * (1 + ins + ps.length))) = true := List.any_eq_true.2 ⟨_, List.getElem_mem hlt, hf⟩
                   rw [HE.out, this]; rfl
                 clear hic hno
                 generalize il[k] = x at *
                 have HBI : Hid (badI (2 * (1 + ins + ps.length)) x = (x != -1 && noLit (2 * (1 + ins + ps.length)) x)) := rfl
                 have hbd : Below wr.heap.size wr wr.drew := (Below.refl _ wr).drew
                 by_cases hx : x = -1
                 · have HX := hide (HN.out (by rw [HBI.out]; simp [hx]))
                   subst hx
                   have HR2 := hide (fun n => bthen HR.out (bdn (Below.refl wr.heap.size wr) n))
                   go_wp2
                   go_quiet (fail)
                   go_wp2
                   go_roundw
                   case rel => exact ⟨k + 1, by omega, by go_num, HX, HR2.out _⟩
                   case measure => simp [intOf]; omega
                 · have hx' : (x != -1) = true := by simpa using hx
                   have hx2 : (x == -1) = false := by simpa using hx
                   have HLX := hide (HLT.out x wr.drew)
                   have HIL : Hid (isLit (2 * (1 + ins + ps.length)) x = !noLit (2 * (1 + ins + ps.length)) x) := rfl
                   rw [HIL.out] at HLX
                   rw [hx'] at HBI
                   cases hz : noLit (2 * (1 + ins + ps.length)) x
                   · have HX := hide (HN.out (by rw [HBI.out, hz]; rfl))
                     rw [hz] at HLX
                     clear HN HY HBI hz
                     go_wp2
                     go_region_held3 (fun w' => w'.cell? ⟨w.heap.size, 0, none⟩ = some (.int .i64 ins) ∧ w'.cell? ⟨w.heap.size, 1, none⟩ = some (.slice p ps.length cap) ∧ w'.cell? ⟨w.heap.size, 4, none⟩ = some (.slice (some ⟨ib, io, none⟩) il.length ic) ∧ w'.cell? ⟨ib, io + k, none⟩ = some (.int .i64 x))
                       (first | exact ⟨cell_later hbN p0, cell_later hbN p1, cell_later hbN p4, cell_later hbN hck⟩ | go_keep)
                       ((go_at_call 53; refine HLX.out.mono ?_; rintro e wN ⟨rfl, hbM⟩; have hbN : Below wr.heap.size wr wN := hbd.trans (show Below wr.heap.size wr.drew wN from hbM)))
                     all_goals
                       have HR2 := hide (bthen HR.out hbN)
                       go_wp2
                       go_roundw
                       case rel => exact ⟨k + 1, by omega, by go_num, HX, HR2⟩
                       case measure => simp [intOf]; omega
                   · have HX := hide (HY.out (by rw [HBI.out, hz]; rfl))
                     rw [hz] at HLX
                     clear HN HY HBI hz
                     go_wp2
                     go_region_held3 (fun w' => w'.cell? ⟨w.heap.size, 0, none⟩ = some (.int .i64 ins) ∧ w'.cell? ⟨w.heap.size, 1, none⟩ = some (.slice p ps.length cap) ∧ w'.cell? ⟨w.heap.size, 4, none⟩ = some (.slice (some ⟨ib, io, none⟩) il.length ic) ∧ w'.cell? ⟨ib, io + k, none⟩ = some (.int .i64 x))
                       (first | exact ⟨cell_later hbN p0, cell_later hbN p1, cell_later hbN p4, cell_later hbN hck⟩ | go_keep)
                       ((go_at_call 53; refine HLX.out.mono ?_; rintro e wN ⟨rfl, hbM⟩; have hbN : Below wr.heap.size wr wN := hbd.trans (show Below wr.heap.size wr.drew wN from hbM)))
                     all_goals
                       have HR2 := hide (bthen HBW.out hbN)
                       go_wp2
                       go_ret
                       exact ⟨ret_int HX.out.symm, HR2.out⟩
               · have h3 : il.any (badI (2 * (1 + ins + ps.length))) = false := by
                   rw [List.any_eq_false]
                   intro y hy
                   obtain ⟨t, ht, rfl⟩ := List.getElem_of_mem hy
                   rw [hno.out t ht (by omega)]; simp
                 rw [h3] at HE
                 have p5 := cell_later HR.out q5
                 have p6 := cell_later HR.out q6
                 have p7 := cell_later HR.out q7
                 clear h3 hno
                 go_wp2_with fail
                 refine (HH.out nl na nc (by unfold maxLen; omega) _ (HK.out.n.later HBW.out)).mono ?_
                 rintro e w3 ⟨rfl, hb3⟩
                 have r0 := cell_later hb3 p0
                 have r1 := cell_later hb3 p1
                 have r6 := cell_later hb3 p6
                 have r7 := cell_later hb3 p7
                 have HB3 := hide (bthen HBW.out hb3)
                 clear hb3 p0 p1 p4 p5 p6 p7
                 cases h4 : nl.any (noLit (2 * (1 + ins + ps.length)))
                 · rw [h4] at HE
                   clear h4
                   go_wp2_with fail
                   refine (HH.out bl ba bc (by unfold maxLen; omega) _ (HK.out.b.later HB3.out)).mono ?_
                   rintro e w4 ⟨rfl, hb4⟩
                   have p0 := cell_later hb4 r0
                   have p1 := cell_later hb4 r1
                   have p7 := cell_later hb4 r7
                   have HB4 := hide (bthen HB3.out hb4)
                   clear hb4 r0 r1 r6 r7 HB3
                   cases h5 : bl.any (noLit (2 * (1 + ins + ps.length)))
                   · rw [h5] at HE
                     clear h5
                     go_wp2_with fail
                     refine (HH.out gl ga gc (by unfold maxLen; omega) _ (HK.out.h.later HB4.out)).mono ?_
                     rintro e w5 ⟨rfl, hb5⟩
                     have HB5 := hide (bthen HB4.out hb5)
                     clear hb5 p0 p1 p7 HB4
                     cases h6 : gl.any (noLit (2 * (1 + ins + ps.length)))
                     · have HX : Hid (R = 0) := by rw [HE.out, h6]; rfl
                       clear HE h6
                       go_wp2
                       go_ret
                       exact ⟨ret_int HX.out.symm, HB5.out⟩
                     · have HX : Hid (R = 5) := by rw [HE.out, h6]; rfl
                       clear HE h6
                       go_wp2
                       go_ret
                       exact ⟨ret_int HX.out.symm, HB5.out⟩
                   · have HX : Hid (R = 5) := by rw [HE.out, h5]; rfl
                     clear HE h5
                     go_wp2
                     go_ret
                     exact ⟨ret_int HX.out.symm, HB4.out⟩
                 · have HX : Hid (R = 5) := by rw [HE.out, h4]; rfl
                   clear HE h4
                   go_wp2
                   go_ret
                   exact ⟨ret_int HX.out.symm, HB3.out⟩
           · have HX : Hid (R = 1) := by rw [HE.out, if_pos (Or.inr (by simpa using hn))]; rfl
             have hi' : ((il.length : Int) != s) = false := by simpa using hi
             have hn' : ((nl.length : Int) != s) = true := by simpa using hn
             clear HE hi hn
             go_wp2
             go_ret
             exact ⟨ret_int HX.out.symm, HB1.out⟩
         · have HX : Hid (R = 1) := by rw [HE.out, if_pos (Or.inl (by simpa using hi))]; rfl
           have hi' : ((il.length : Int) != s) = true := by simpa using hi
           clear HE hi
           go_wp2
           go_ret
           exact ⟨ret_int HX.out.symm, HB1.out⟩
       · have HX : Hid (R = 4) := by rw [HE.out, if_pos (Or.inr (Or.inr hsum))]; rfl
         have hne := wrap_far (by omega) HW.out.2 (by omega) HWS.out.2 h0 h1 hsum
         have hne3 : ¬ wrap64 (a + s) = ins := by
           have h5 := HW.out.2
           have h6 := HWS.out.2
           unfold wrap64
           omega
         have hne2 : (wrap64 (a + s) != ins) = true := by simpa using hne3
         clear HE hsum
         go_wp2
         go_ret
         exact ⟨ret_int HX.out.symm, HB1.out⟩
 · have hne : (chkE ins ps != 0) = true := by simpa using hc
   have HE : Hid (cirE ins ps a s i.ns n.ns b.ns h.ns = chkE ins ps) := by unfold cirE; rw [if_pos hc]; rfl
   clear hc
   generalize chkE ins ps = Z at *
   generalize cirE ins ps a s i.ns n.ns b.ns h.ns = R at *
   go_enter Tryz.func20, Tryz.ntmps20
   go_wp2_with fail
   refine HC.out.mono ?_
   rintro e w1 ⟨rfl, hb1⟩
   have HB1 := hide (bthen hB0 hb1)
   clear hb1 hB0 HC
   go_wp2
   go_ret
   exact ⟨ret_int HE.out.symm, HB1.out⟩
end Go.Proofs.YtjhkecnnhddhbaaGreatDoor
