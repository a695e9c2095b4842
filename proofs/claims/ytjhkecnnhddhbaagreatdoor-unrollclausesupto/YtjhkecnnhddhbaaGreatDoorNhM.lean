/- The toggle's circuit. -/
import Derived.Test.YtjhkecnnhddhbaaGreatDoorBpaM
import Derived.Deep.RegionHeld3
import Derived.Deep.CutRange
namespace Go.Proofs.YtjhkecnnhddhbaaGreatDoor.Ev
open Go.RowKit Go.Maps
set_option maxRecDepth 100000
set_option maxHeartbeats 16000000 in
theorem blastT_any (B0 B1 B2 B3 : Nat) (w : World) (hT : TgAt w B0 B1 B2 B3) :
   Calls Tryz.prog 56 #[Mv.val (tgM B0 B1 B2 B3) 3] w fun e w' => ∃ (pv : Option Addr) (cv : Nat) (pi : Option Addr) (ci : Nat) (pn : Option Addr) (cn : Nat) (pb : Option Addr) (cb : Nat),
     e = .returned (.tuple #[Go.Proofs.YtjhkecnnhddhbaaGreatDoor.circ 1 pv 0 cv 0 1 ⟨pi, [0], ci⟩ ⟨pn, [3], cn⟩ ⟨pb, [2], cb⟩ ⟨none, [], 0⟩, .int .i64 0]) ∧ IntsAt w' pi [0] ∧ IntsAt w' pn [3] ∧ IntsAt w' pb [2] ∧ Below w.heap.size w w' := by
 have HT := hide hT
 have HCK := hide (fun (w' : World) (hb : Below w.heap.size w w') => checkT_any B0 B1 B2 B3 w' (hT.later hb))
 have HBE := hide (fun (w' : World) (hb : Below w.heap.size w w') => begunT_any B0 B1 B2 B3 w' (hT.later hb))
 have HST := hide (fun (w' : World) (hb : Below w.heap.size w w') => startT_any B0 B1 B2 B3 w' (hT.later hb))
 have HNX : Hid (∀ (w' : World), Below w.heap.size w w' → Calls Tryz.prog 78 #[.agg #[.slice (some ⟨B0, 0, none⟩) 3 3, .slice (some ⟨B1, 0, none⟩) 1 1, .slice (some ⟨B2, 0, none⟩) 1 1, .slice (some ⟨B3, 0, none⟩) 1 1, .slice none 0 0]] w' fun e w'' => ∃ p cap, e = .returned (.slice p 1 cap) ∧ IntsAt w'' p [2] ∧ Below w'.heap.size w' w'') := fun w' hb => nextOnesT_any B0 B1 B2 B3 w' (hT.later hb)
 have HB2 := hide (fun (w' : World) (hb : Below w.heap.size w w') => bitsT2_any B0 B1 B2 B3 w' (hT.later hb))
 have HB3 := hide (fun (w' : World) (hb : Below w.heap.size w w') => bitsT3_any B0 B1 B2 B3 w' (hT.later hb))
 have hB0 : Below w.heap.size w ((w.alloc (.cells (Mv.cells (tgM B0 B1 B2 B3) 3) 65)).alloc newC) := bal (bal (Below.refl _ _) _) _
 clear hT
 go_enter Tryz.func56, Tryz.ntmps56
 go_wp2_with fail
 refine (HCK.out _ hB0).mono ?_
 rintro e w1 ⟨rfl, hb1⟩
 have x1 : BoxS w.heap.size B0 B1 B2 B3 w1 := ⟨cell_later hb1 (by simp [go_sem]), cell_later hb1 (by simp [go_sem]), cell_later hb1 (by simp [go_sem]), cell_later hb1 (by simp [go_sem]), cell_later hb1 (by simp [go_sem])⟩
 have HR1 := hide (ResS.later (h := w.heap.size + 1) (by simpa using res_new (w.alloc (.cells (Mv.cells (tgM B0 B1 B2 B3) 3) 65))) hb1)
 obtain ⟨q0, q1, q2, q3, q4⟩ := id x1
 have X1 := hide x1
 have HBa := hide (bthen hB0 hb1)
 have hsa : w.heap.size + 2 ≤ w1.heap.size := by have := hb1.size; simp at this; omega
 clear hb1 hB0 HCK x1
 go_wp2_with fail
 refine (HBE.out _ HBa.out).mono ?_
 rintro e w2 ⟨pi, ci, rfl, hIi, hfi, hb2⟩
 have HR2 := hide (HR1.out.later hb2)
 have HI2 := hide hIi
 have HFI := hide hfi
 have HBb := hide (bthen HBa.out hb2)
 have hsb := hb2.size
 have X2 := hide (show BoxS w.heap.size B0 B1 B2 B3 w2 from ⟨cell_later hb2 q0, cell_later hb2 q1, cell_later hb2 q2, cell_later hb2 q3, cell_later hb2 q4⟩)
 clear q0 q1 q2 q3 q4 hIi hb2 HBE HBa HR1 X1 hfi
 obtain ⟨q0, q1, q2, q3, q4⟩ := X2.out
 go_wp2_with fail
 refine (HST.out _ HBb.out).mono ?_
 rintro e w3 ⟨P, M, G, D, rfl, hz, hh2, ha2, hgz, hM, hb3⟩
 have hbD : Below w3.heap.size w3 w3.drew := (Below.refl _ w3).drew
 have E3 : Hid (Ez w w3 w3.heap.size P M B0 B1 B2 B3 pi) := by
   obtain ⟨X, pv, cv, h1, h2, h3, h4, h5⟩ := hgz.g
   have hl := hz.ltM
   have hs3 := hb3.size
   exact ⟨⟨cell_later hb3 q0, cell_later hb3 q1, cell_later hb3 q2, cell_later hb3 q3, cell_later hb3 q4⟩, ⟨X, pv, cv, h1, h2, h3, h4, h5, World.block_lt_of_cell? _ _ h1, World.block_lt_of_cell? _ _ h2⟩, HR2.out.later hb3, HI2.out.later hb3,
     fun b off e => by have h1 := HFI.out b off e; have h2 := ints_lt HI2.out b off e; exact ⟨by omega, by omega, by omega⟩, bthen HBb.out hb3, by omega, Nat.le_refl _, by omega, hl⟩
 have ED := hide (E3.out.later hbD)
 have EA : Hid (Ez w (w3.alloc newC).drew w3.heap.size P M B0 B1 B2 B3 pi) := (E3.out.alloc newC).later (Below.refl _ (w3.alloc newC)).drew
 have FA : Hid (Below w3.heap.size w3 (w3.alloc newC).drew) := (bal (Below.refl _ w3) newC).drew
 have RA : Hid (ResS w3.heap.size (w3.alloc newC).drew) := (res_new w3).later (Below.refl _ (w3.alloc newC)).drew
 have HZ := hide hz
 have HH2 := hide (And.intro hh2 ha2)
 have hMlt := hz.ltM
 have hMge : w.heap.size + 2 ≤ M := by omega
 clear q0 q1 q2 q3 q4 hb3 HST HBb HR2 X2 hz hh2 ha2 hgz HI2 hM HFI E3
 have HAN := hide (fun (w6 : World) (p : Option Addr) (c : Nat) (F6 : Below w3.heap.size w3 w6) (B6 : Below w.heap.size w w6) (hI6 : IntsAt w6 p [2]) => allNexts_any P M B0 G D w.heap.size (by omega) p c w6 (HZ.out.later F6) HH2.out.1 HH2.out.2 (HT.out.n.later B6) hI6)
 have HAB := hide (fun (w7 : World) (D' : DataW Unit) (hz7 : Bz w7 P M B0 G 2 D') (B7 : Below w.heap.size w w7) => allBads_any P M B0 G 2 D' (some ⟨B3, 0, none⟩) 1 w7 hz7 (HT.out.b.later B7))
 obtain ⟨q0, q1, q2, q3, q4⟩ := (show BoxS w.heap.size B0 B1 B2 B3 w3 from ED.out.x)
 have FD := hide hbD
 clear hbD HZ HH2 HT
 go_upto_region 8 with fail
 go_cut [8] from 9 to 54 (fun s wx => ∃ blk, s = .pointer (some ⟨blk, 0, none⟩) ∧ ∃ pn cn pb cb, Hid (Fz w wx w3.heap.size P M B0 B1 B2 B3 blk pi ci pn cn pb cb))
 case first =>
   go_region_held3 (fun w' => w'.cell? ⟨w.heap.size, 0, none⟩ = some (.slice (some ⟨B0, 0, none⟩) 3 3) ∧ w'.cell? ⟨w.heap.size, 1, none⟩ = some (.slice (some ⟨B1, 0, none⟩) 1 1) ∧ w'.cell? ⟨w.heap.size, 2, none⟩ = some (.slice (some ⟨B2, 0, none⟩) 1 1) ∧ w'.cell? ⟨w.heap.size, 3, none⟩ = some (.slice (some ⟨B3, 0, none⟩) 1 1) ∧ w'.cell? ⟨w.heap.size, 4, none⟩ = some (.slice none 0 0))
     (first
       | with_reducible exact ((((((((E8.out.set hblk 0 _).set hblk 1 _).set hblk 2 _).set hblk 3 _).set hblk 4 _).set hblk 5 _).set hblk 6 _).set hblk 7 _).x
       | with_reducible exact E8.out.x
       | with_reducible exact E7.out.x
       | with_reducible exact E6.out.x
       | with_reducible exact E5.out.x
       | with_reducible exact E4.out.x
       | with_reducible exact ED.out.x
       | with_reducible exact (E8.out.alloc _).x
       | with_reducible exact (E7.out.alloc _).x
       | with_reducible exact (E6.out.alloc _).x
       | with_reducible exact (E5.out.alloc _).x
       | with_reducible exact (E4.out.alloc _).x
       | with_reducible exact EA.out.x
       | go_keep)
     (first
       | (have _ := E8; go_at_call 77; with_reducible refine (all0_any P none 0 _).mono ?_; rintro e w9 ⟨rfl, hw9⟩; rw [hw9]
          first
            | (obtain ⟨⟨z0, z1, z2, z3, z4, z5, z6, z7, zf⟩, hblk⟩ := RR.out)
            | skip)
       | (have _ := E7; go_at_call 77; with_reducible refine (HAB.out _ D' (by first | with_reducible exact hz7 | with_reducible exact hz7.later (bal (Below.refl _ _) _)) (by first | with_reducible exact E7.out.bel | with_reducible exact bal E7.out.bel _)).mono ?_; rintro e w8 ⟨pb, cb, rfl, hI8, hb8⟩
          have e8' : Ez w w8 w3.heap.size P M B0 B1 B2 B3 pi := (by first | with_reducible exact E7.out.later hb8 | with_reducible exact (E7.out.alloc _).later hb8)
          have E8 := hide e8'
          have n8' : IntsAt w8 pn [3] := (by first | with_reducible exact hI7.later hb8 | with_reducible exact (hI7.later (bal (Below.refl _ _) _)).later hb8)
          have N8 := hide n8'
          first
            | (have RR := hide (And.intro (RR.out.1.later hb8) RR.out.2))
            | (have RR := hide (And.intro ((res_new w7).later hb8) E7.out.hs))
            | skip)
       | (have _ := E6; go_at_call 77; with_reducible refine (HAN.out _ pn0 cn0 (by first | with_reducible exact F6.out | with_reducible exact bal F6.out _) (by first | with_reducible exact E6.out.bel | with_reducible exact bal E6.out.bel _) (by first | with_reducible exact hI6 | with_reducible exact hI6.later (bal (Below.refl _ _) _))).mono ?_; rintro e w7 ⟨pn, cn, D', rfl, hI7, hz7, hb7, hk7⟩
          have e7' : Ez w w7 w3.heap.size P M B0 B1 B2 B3 pi := (by first | with_reducible exact E6.out.kept hb7 hk7 | with_reducible exact (E6.out.alloc _).kept hb7 hk7)
          have E7 := hide e7'
          first
            | (have RR := hide (And.intro (RR.out.1.kept hk7 (by have := RR.out.2; omega)) RR.out.2))
            | (have RR := hide (And.intro ((res_new w6).kept hk7 (by have := E6.out.hs; omega)) E6.out.hs))
            | skip)
       | (have _ := E5; go_at_call 78; with_reducible refine (HNX.out _ (by first | with_reducible exact E5.out.bel | with_reducible exact bal E5.out.bel _)).mono ?_; rintro e w6 ⟨pn0, cn0, rfl, hI6, hb6⟩
          have e6' : Ez w w6 w3.heap.size P M B0 B1 B2 B3 pi := (by first | with_reducible exact E5.out.later hb6 | with_reducible exact (E5.out.alloc _).later hb6)
          have E6 := hide e6'
          have f6' : Below w3.heap.size w3 w6 := (by first | with_reducible exact bthen F5.out hb6 | with_reducible exact bthen (bal F5.out _) hb6)
          have F6 := hide f6'
          first
            | (have RR := hide (And.intro (RR.out.1.later hb6) RR.out.2))
            | (have RR := hide (And.intro ((res_new w5).later hb6) E5.out.hs))
            | skip)
       | (have _ := E4; go_at_call 76; with_reducible refine (HB3.out _ (by first | with_reducible exact E4.out.bel | with_reducible exact bal E4.out.bel _)).mono ?_; rintro e w5 ⟨rfl, hb5⟩
          have e5' : Ez w w5 w3.heap.size P M B0 B1 B2 B3 pi := (by first | with_reducible exact E4.out.later hb5 | with_reducible exact (E4.out.alloc _).later hb5)
          have E5 := hide e5'
          have f5' : Below w3.heap.size w3 w5 := (by first | with_reducible exact bthen F4.out hb5 | with_reducible exact bthen (bal F4.out _) hb5)
          have F5 := hide f5'
          first
            | (have RR := hide (And.intro (RR.out.1.later hb5) RR.out.2))
            | (have RR := hide (And.intro ((res_new w4).later hb5) E4.out.hs))
            | skip)
       | (go_at_call 76; with_reducible refine (HB2.out _ (by first | with_reducible exact ED.out.bel | with_reducible exact EA.out.bel)).mono ?_; rintro e w4 ⟨rfl, hb4⟩
          have e4' : Ez w w4 w3.heap.size P M B0 B1 B2 B3 pi := (by first | with_reducible exact ED.out.later hb4 | with_reducible exact EA.out.later hb4)
          have E4 := hide e4'
          have f4' : Below w3.heap.size w3 w4 := (by first | with_reducible exact bthen FD.out hb4 | with_reducible exact bthen FA.out hb4)
          have F4 := hide f4'
          first
            | (have RR := hide (And.intro (RA.out.later hb4) (Nat.le_refl w3.heap.size)))
            | skip))
   all_goals go_wp2_with fail
   all_goals go_meet
   all_goals (first
     | (have hR := RR.out
        exact ⟨_, rfl, pn, cn, pb, cb, fz_set E8.out N8.out hI8 hR.1 hR.2⟩)
     | exact ⟨_, rfl, pn, cn, pb, cb, fz_alloc E8.out N8.out hI8⟩)
 case rest =>
   obtain ⟨blk, rfl, pn, cn, pb, cb, HF⟩ := hcut
   obtain ⟨X, pv, cv, g0, g1, g2, _, _, hPn, hXn⟩ := HF.out.e.g
   obtain ⟨_, _, _, c0, c1, c2, c3, c4, c5, c6, c7, cf, oa, ob, hbk⟩ := HF.out
   obtain ⟨z0, z1, z2, z3, z4, z5, z6, z7, zf⟩ := HF.out.e.r
   have hn := HF.out.e.hn
   have oi : Off pi blk := off_ne fun b off e => by have := (HF.out.e.li b off e).2.1; omega
   have oi2 : Off pi (w.heap.size + 1) := off_ne fun b off e => by have := (HF.out.e.li b off e).1; omega
   have EW := (HF.out.e.set hbk 0 (.int .i64 1)).set hbk 1 (.slice pv 0 cv)
   have R2 := EW.r
   have I1 := hide (ints_set8 EW.i oi2 (.int .i64 1) (.slice pv 0 cv) (.int .i64 0) (.int .i64 1) (.slice pi 1 ci) (.slice pn 1 cn) (.slice pb 1 cb) (.slice none 0 0))
   have I2 := hide (ints_set8 (ints_off (ints_off HF.out.a oa (by omega : 0 ≤ 7) (.int .i64 1)) oa (by omega : 1 ≤ 7) (.slice pv 0 cv)) (off_of HF.out.e.r HF.out.a (by decide)) (.int .i64 1) (.slice pv 0 cv) (.int .i64 0) (.int .i64 1) (.slice pi 1 ci) (.slice pn 1 cn) (.slice pb 1 cb) (.slice none 0 0))
   have I3 := hide (ints_set8 (ints_off (ints_off HF.out.b ob (by omega : 0 ≤ 7) (.int .i64 1)) ob (by omega : 1 ≤ 7) (.slice pv 0 cv)) (off_of HF.out.e.r HF.out.b (by decide)) (.int .i64 1) (.slice pv 0 cv) (.int .i64 0) (.int .i64 1) (.slice pi 1 ci) (.slice pn 1 cn) (.slice pb 1 cb) (.slice none 0 0))
   have hh : w.heap.size ≤ w.heap.size + 1 := by omega
   have HBL := hide ((((((((EW.bel.setCell (p := ⟨w.heap.size + 1, 0, none⟩) hh (.int .i64 1)).setCell (p := ⟨w.heap.size + 1, 1, none⟩) hh (.slice pv 0 cv)).setCell (p := ⟨w.heap.size + 1, 2, none⟩) hh (.int .i64 0)).setCell (p := ⟨w.heap.size + 1, 3, none⟩) hh (.int .i64 1)).setCell (p := ⟨w.heap.size + 1, 4, none⟩) hh (.slice pi 1 ci)).setCell (p := ⟨w.heap.size + 1, 5, none⟩) hh (.slice pn 1 cn)).setCell (p := ⟨w.heap.size + 1, 6, none⟩) hh (.slice pb 1 cb)).setCell (p := ⟨w.heap.size + 1, 7, none⟩) hh (.slice none 0 0))
   clear EW R2 oi oi2 oa ob hh HB2 HB3 HNX HAN HAB ED EA FA RA FD
   go_wp2
   exact bodyPost_ret (v := .tuple #[Go.Proofs.YtjhkecnnhddhbaaGreatDoor.circ 1 pv 0 cv 0 1 ⟨pi, [0], ci⟩ ⟨pn, [3], cn⟩ ⟨pb, [2], cb⟩ ⟨none, [], 0⟩, .int .i64 0]) (by simp [results, Tryz.results56, go_sem, z0, z1, z2, z3, z4, z5, z6, z7]) rfl ⟨pv, cv, pi, ci, pn, cn, pb, cb, rfl, I1.out, I2.out, I3.out, HBL.out⟩
end Go.Proofs.YtjhkecnnhddhbaaGreatDoor.Ev

namespace Go.Proofs.YtjhkecnnhddhbaaGreatDoor.Ev
open Go.RowKit Go.Maps
set_option maxRecDepth 100000
set_option maxHeartbeats 4000000 in
theorem words2_tg (B0 : Nat) (q : Option Addr) (n c : Nat) (w : World) (hN : NodesAt w (some ⟨B0, 0, none⟩) tgN) :
   Calls Tryz.prog 82 #[.slice (some ⟨B0, 0, none⟩) 3 3, .int .i64 2, .slice q n c] w fun e w' => e = .returned (.slice none 0 0) ∧ Below w.heap.size w w' := by
 have HOK := hide (ofKind_any (some ⟨B0, 0, none⟩) 3 tgN (by decide) 2 w hN)
 rw [tg_sel2] at HOK
 clear hN
 go_enter Tryz.func82, Tryz.ntmps82
 go_wp2_with fail
 refine HOK.out.mono ?_
 rintro e w1 ⟨p, cap, rfl, _, hb⟩
 have HB := hide hb
 clear hb HOK
 go_wp2
 go_loopw [7, 16] (fun s i wr => s = .slice none 0 0 ∧ i = .int .i64 0 ∧ wr = w1) (fun _ _ _ => 0)
 case atStart => exact ⟨rfl, rfl, rfl⟩
 case round =>
   obtain ⟨rfl, rfl, hw⟩ := hrel
   obtain rfl : w1 = wr := hw.symm
   clear hw
   go_wp2
   go_ret
   exact ⟨rfl, HB.out⟩
set_option maxHeartbeats 8000000 in
theorem words3_tg (B0 : Nat) (q : Option Addr) (n c : Nat) (hn : 1 ≤ n) (hn2 : n ≤ 1000) (hc : n ≤ c) (w : World) (hN : NodesAt w (some ⟨B0, 0, none⟩) tgN) (bs : List Bool) (hb0 : Go.Proofs.YtjhkecnnhddhbaaGreatDoor.BoolsAt w q (false :: bs)) :
   Calls Tryz.prog 82 #[.slice (some ⟨B0, 0, none⟩) 3 3, .int .i64 3, .slice q n c] w fun e w' => (∃ p cap, e = .returned (.slice p 1 cap)) ∧ Below w.heap.size w w' := by
 have HOK := hide (ofKind_any (some ⟨B0, 0, none⟩) 3 tgN (by decide) 3 w hN)
 rw [tg_sel] at HOK
 have HN := hide hN
 obtain ⟨qb, qo, rfl, hqc⟩ := hb0 (by simp)
 have hq0 := hqc 0 (by simp)
 simp only [List.getElem_cons_zero, Nat.add_zero] at hq0
 clear hN hb0 hqc
 go_enter Tryz.func82, Tryz.ntmps82
 go_wp2_with fail
 refine HOK.out.mono ?_
 rintro e w1 ⟨p, cap, rfl, hI, hb⟩
 have HB := hide hb
 have q1 := cell_later hb hq0
 obtain ⟨nb, no, hne, hnc⟩ := (HN.out.later hb) (by decide)
 cases hne
 have n1 := (hnc 1 (by decide)).2.1
 simp [tgN] at n1
 obtain ⟨sb, so, rfl, hsc⟩ := hI (by simp)
 have s0 := hsc 0 (by simp)
 simp only [List.getElem_cons_zero, Nat.add_zero] at s0
 clear hb HOK hnc hI hsc hq0 HN
 go_wp2
 go_loopw [2, 7, 16] (fun b s i wr => ∃ k : Nat, i = .int .i64 k ∧ ((k = 0 ∧ b = .slice (some ⟨qb, qo, none⟩) n c ∧ s = .slice none 0 0 ∧ wr = w1) ∨ (k = 1 ∧ Hid ((∃ p cap, s = .slice p 1 cap) ∧ Below w1.heap.size w1 wr)))) (fun _ _ i _ => 1 - (intOf i).toNat)
 case atStart => exact ⟨0, rfl, Or.inl ⟨rfl, rfl, rfl, rfl⟩⟩
 case round =>
   obtain ⟨k, rfl, hcase⟩ := hrel
   rcases hcase with ⟨rfl, rfl, rfl, hw⟩ | ⟨rfl, HD⟩
   · obtain rfl : w1 = wr := hw.symm
     clear hw
     go_wp2
     go_loopw [10, 25] (fun x i wr => ∃ k : Nat, k ≤ 1 ∧ i = .int .i64 k ∧ x = .int .i64 0 ∧ wr = w1) (fun _ i _ => 1 - (intOf i).toNat)
     case atStart => exact ⟨0, by decide, rfl, rfl, rfl⟩
     case round =>
       obtain ⟨k, hk, rfl, rfl, hw⟩ := hrel
       obtain rfl : w1 = wr := hw.symm
       clear hw
       by_cases hk0 : k = 0
       · subst hk0
         have hl : (0 : Int) < (n : Int) := by omega
         go_wp2
         go_roundw
         case rel => exact ⟨1, by decide, by go_num, rfl, trivial⟩
         case measure => simp [intOf]
       · obtain rfl : k = 1 := by omega
         clear hk0
         have hl1 : (1 : Int) ≤ (n : Int) := by omega
         have hlc : (n : Int) ≤ (c : Int) := by omega
         go_wp2_with (at_builtin; refine Go.Proofs.YtjhkecnnhddhbaaGreatDoor.wpList_append_ints rfl _ _ rfl w1.heap.size _ [] [0] rfl (World.ownsRow_nil _ _ _ _) (some ⟨w1.heap.size, 0, none⟩) 1 rfl (Go.Proofs.YtjhkecnnhddhbaaGreatDoor.ints_one 0) (fun h => by cases h) (by simp) (by simp) ?_)
         intro v9 w9 ho9 hg9
         have hb9 : Below w1.heap.size w1 w9 := (bal (Below.refl _ w1) _).grown hg9 (by simp) (fun j hj => by cases hj)
         obtain ⟨p9, c9, rfl, _⟩ := Go.Proofs.YtjhkecnnhddhbaaGreatDoor.owns_ints (show w9.ownsRow w1.heap.size 3 1 v9 [(0 : Int)].length ([(0 : Int)].map (Value.int .i64)) from ho9)
         have n9 := cell_later hb9 n1
         have HD9 : Hid ((∃ p cap, Value.slice p9 [(0 : Int)].length c9 = .slice p 1 cap) ∧ Below w1.heap.size w1 w9) := ⟨⟨p9, c9, rfl⟩, hb9⟩
         clear ho9 hg9 hb9
         go_wp2
         exact ⟨⟨1, rfl, Or.inr ⟨rfl, HD9⟩⟩, by simp [intOf]⟩
   · obtain ⟨⟨pz, cz, rfl⟩, hbz⟩ := HD.out
     have HBZ := hide (bthen HB.out hbz)
     clear HD hbz
     go_wp2
     go_ret
     exact ⟨⟨pz, cz, rfl⟩, HBZ.out⟩
end Go.Proofs.YtjhkecnnhddhbaaGreatDoor.Ev
