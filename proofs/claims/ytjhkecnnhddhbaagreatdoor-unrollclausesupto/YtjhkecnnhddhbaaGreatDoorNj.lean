/- A bad trace of the toggle is found. -/
import Derived.Test.YtjhkecnnhddhbaaGreatDoorNiM
namespace Go.Proofs.YtjhkecnnhddhbaaGreatDoor.Sr
open Go.RowKit Go.Maps
set_option maxRecDepth 100000
abbrev tgV (pv : Option Addr) (cv : Nat) (pi : Option Addr) (ci : Nat) (pn : Option Addr) (cn : Nat) (pb : Option Addr) (cb : Nat) : Value := .agg #[.int .i64 1, .slice pv 0 cv, .int .i64 0, .int .i64 1, .slice pi 1 ci, .slice pn 1 cn, .slice pb 1 cb, .slice none 0 0]
section
variable (pv : Option Addr) (cv : Nat) (pi : Option Addr) (ci : Nat) (pn : Option Addr) (cn : Nat) (pb : Option Addr) (cb : Nat)
theorem far0_tg (w : World) : Calls Tryz.prog 57 #[tgV pv cv pi ci pn cn pb cb, .int .i64 0, .int .i64 1000] w fun e w' => e = .returned (.bool false) ∧ Below w.heap.size w w' :=
 isFar0 1 (.slice pv 0 cv) (.slice pi 1 ci) (.slice pn 1 cn) (.slice pb 1 cb) (.slice none 0 0) 1000 w
theorem far1_tg (w : World) (h : CIn w (tgC pv cv pi ci pn cn pb cb)) : Calls Tryz.prog 57 #[tgV pv cv pi ci pn cn pb cb, .int .i64 1, .int .i64 1000] w fun e w' => e = .returned (.bool false) ∧ Below w.heap.size w w' :=
 isFar1 1 (.slice pv 0 cv) (.slice pi 1 ci) (.slice pn 1 cn) (.slice pb 1 cb) (.slice none 0 0) 1000 125 1 (by kernel_rfl) w (fun W hb =>
   approach1 1 (.slice pv 0 cv) (.slice pi 1 ci) (.slice pn 1 cn) (.slice pb 1 cb) (.slice none 0 0) 3 u2 125 1 (by decide) W (fun W' hb' => clU2 ((h.later hb).later hb')) (fun p cap rs W' hC hn => solveU2 p cap rs W' hC hn))
theorem reach0_tg (w : World) (h : CIn w (tgC pv cv pi ci pn cn pb cb)) : Calls Tryz.prog 58 #[tgV pv cv pi ci pn cn pb cb, .int .i64 0, .int .i64 1000] w (HvOut w 2 (fun _ _ _ _ => True)) :=
 reach0 1 (.slice pv 0 cv) 1 (by decide) (.slice pi 1 ci) (.slice pn 1 cn) (.slice pb 1 cb) (.slice none 0 0) 0 (by decide) 1 u0 1000 2 (by decide) (fun _ _ _ _ => True) (fun _ _ _ _ _ _ _ => trivial) w (fun W hb => clU0 (h.later hb)) (fun p cap rs W hC hn => solveU0 p cap rs W hC hn)
theorem reach1_tg (w : World) (h : CIn w (tgC pv cv pi ci pn cn pb cb)) : Calls Tryz.prog 58 #[tgV pv cv pi ci pn cn pb cb, .int .i64 1, .int .i64 1000] w (HvOut w 1 (fun q n c w => n = 2 ∧ c = 2 ∧ BoolsAt w q [false, true])) :=
 reach0 1 (.slice pv 0 cv) 1 (by decide) (.slice pi 1 ci) (.slice pn 1 cn) (.slice pb 1 cb) (.slice none 0 0) 1 (by decide) 2 u1 1000 1 (by decide) (fun q n c w => n = 2 ∧ c = 2 ∧ BoolsAt w q [false, true]) (fun _ _ _ _ _ ⟨h1, h2, h3⟩ hb => ⟨h1, h2, h3.later hb⟩) w (fun W hb => clU1 (h.later hb)) (fun p cap rs W hC hn => solveU1 p cap rs W hC hn)
end
theorem res59 {fn : Func} {p u v : Tmp} (h : fn.results = #[.cell p 59, .tmp u, .tmp v]) (tmps : Array Value) {w : World} {R : Nat} {a b : Value} (hp : tmps.getD p undef = .pointer (some ⟨R, 0, none⟩)) (hg : w.heap[R]? = some (.cells #[a, b] 59)) :
   (results fn tmps).run Tryz.prog w = .ok (.tuple #[.agg #[a, b], tmps.getD u undef, tmps.getD v undef]) w := by
 have hld := run_loadVar_row (P := Tryz.prog) _ R 59 59 _ _ _ hg Tryz.underlying59 rfl (by kernel_rfl)
 have hp' : tmps[p]?.getD undef = .pointer (some ⟨R, 0, none⟩) := by simpa using hp
 simp only [results, h]
 simp [Result.andThen, hp', asAddr, hld]
set_option maxHeartbeats 16000000 in
theorem find_tg (B0 B1 B2 B3 : Nat) (w : World) (hT : Ev.TgAt w B0 B1 B2 B3) :
   Calls Tryz.prog 29 #[Ev.Mv.val (Ev.tgM B0 B1 B2 B3) 3, .int .i64 3, .int .i64 1000] w fun e w' => (∃ p0 c0 p1 c1, e = .returned (.tuple #[.agg #[.slice p0 1 c0, .slice p1 2 c1], .int .i64 1, .int .i64 0])) ∧ Below w.heap.size w w' := by
 have hb2 : Below w.heap.size w ((w.alloc (.cells (Ev.Mv.cells (Ev.tgM B0 B1 B2 B3) 3) 65)).alloc (.cells #[.slice none 0 0, .slice none 0 0] 59)) := bal (bal (Below.refl _ _) _) _
 have HBL := hide (Ev.blastT_any B0 B1 B2 B3 _ (hT.later hb2))
 have hg : ((w.alloc (.cells (Ev.Mv.cells (Ev.tgM B0 B1 B2 B3) 3) 65)).alloc (.cells #[.slice none 0 0, .slice none 0 0] 59)).heap[w.heap.size + 1]? = some (.cells #[.slice none 0 0, .slice none 0 0] 59) := alloc_at (by simp)
 have hm : ((w.alloc (.cells (Ev.Mv.cells (Ev.tgM B0 B1 B2 B3) 3) 65)).alloc (.cells #[.slice none 0 0, .slice none 0 0] 59)).heap[w.heap.size]? = some (.cells (Ev.Mv.cells (Ev.tgM B0 B1 B2 B3) 3) 65) := ((bal (Below.refl _ (w.alloc (.cells (Ev.Mv.cells (Ev.tgM B0 B1 B2 B3) 3) 65))) _).block _ (by simp)).trans (alloc_at rfl)
 have HTG := hide hT
 have HB2 := hide hb2
 have HG := hide hg
 have HM := hide hm
 clear hT hb2 hg hm
 go_enter Tryz.func29, Tryz.ntmps29
 go_wp2_with fail
 generalize (w.alloc (.cells (Ev.Mv.cells (Ev.tgM B0 B1 B2 B3) 3) 65)).alloc (.cells #[.slice none 0 0, .slice none 0 0] 59) = w2 at *
 refine HBL.out.mono ?_
 rintro e w3 ⟨pv, cv, pi, ci, pn, cn, pb, cb, rfl, h1, h2, h3, hb3⟩
 have hb4 : Below w3.heap.size w3 (w3.alloc (.cells #[.int .i64 1, .slice pv 0 cv, .int .i64 0, .int .i64 1, .slice pi 1 ci, .slice pn 1 cn, .slice pb 1 cb, .slice none 0 0] 27)) := bal (Below.refl _ _) _
 have hC : (w3.alloc (.cells #[.int .i64 1, .slice pv 0 cv, .int .i64 0, .int .i64 1, .slice pi 1 ci, .slice pn 1 cn, .slice pb 1 cb, .slice none 0 0] 27)).heap[w3.heap.size]? = some (.cells #[.int .i64 1, .slice pv 0 cv, .int .i64 0, .int .i64 1, .slice pi 1 ci, .slice pn 1 cn, .slice pb 1 cb, .slice none 0 0] 27) := alloc_at rfl
 have HCI := hide ((tgC_in (pv := pv) (cv := cv) (pi := pi) (ci := ci) (pn := pn) (cn := cn) (pb := pb) (cb := cb) (show IntsAt w3 pi [0] from h1) h2 h3).later hb4)
 have HC := hide hC
 have HB4 := hide (bthen (bthen HB2.out hb3) hb4)
 have HG4 := hide ((hb4.block _ (by have := (Array.getElem?_eq_some_iff.1 HG.out).1; have := hb3.size; omega)).trans ((hb3.block _ (Array.getElem?_eq_some_iff.1 HG.out).1).trans HG.out))
 have HM4 := hide ((hb4.block _ (by have := (Array.getElem?_eq_some_iff.1 HM.out).1; have := hb3.size; omega)).trans ((hb3.block _ (Array.getElem?_eq_some_iff.1 HM.out).1).trans HM.out))
 clear HBL HG HM HB2 h1 h2 h3 hb3 hb4 hC
 go_wp2
 generalize w3.alloc (.cells #[.int .i64 1, .slice pv 0 cv, .int .i64 0, .int .i64 1, .slice pi 1 ci, .slice pn 1 cn, .slice pb 1 cb, .slice none 0 0] 27) = w4 at *
 generalize w3.heap.size = U at *
 go_loopw [40] (fun i wr => ∃ k : Nat, i = .int .i64 k ∧ (k = 0 ∨ k = 1) ∧ Hid (Below w4.heap.size w4 wr)) (fun i _ => 2 - (intOf i).toNat)
 case atStart => exact ⟨0, rfl, Or.inl rfl, Below.refl _ _⟩
 case round =>
   obtain ⟨k, rfl, hk, HBW⟩ := hrel
   have hCr := (HBW.out.block _ (Array.getElem?_eq_some_iff.1 HC.out).1).trans HC.out
   have HCR := hide hCr
   have k0 : wr.cell? ⟨U, 0, none⟩ = some (.int .i64 1) := by rw [Lib.cell_of_heap hCr]; rfl
   have k1 : wr.cell? ⟨U, 1, none⟩ = some (.slice pv 0 cv) := by rw [Lib.cell_of_heap hCr]; rfl
   have k2 : wr.cell? ⟨U, 2, none⟩ = some (.int .i64 0) := by rw [Lib.cell_of_heap hCr]; rfl
   have k3 : wr.cell? ⟨U, 3, none⟩ = some (.int .i64 1) := by rw [Lib.cell_of_heap hCr]; rfl
   have k4 : wr.cell? ⟨U, 4, none⟩ = some (.slice pi 1 ci) := by rw [Lib.cell_of_heap hCr]; rfl
   have k5 : wr.cell? ⟨U, 5, none⟩ = some (.slice pn 1 cn) := by rw [Lib.cell_of_heap hCr]; rfl
   have k6 : wr.cell? ⟨U, 6, none⟩ = some (.slice pb 1 cb) := by rw [Lib.cell_of_heap hCr]; rfl
   have k7 : wr.cell? ⟨U, 7, none⟩ = some (.slice none 0 0) := by rw [Lib.cell_of_heap hCr]; rfl
   have HCr := hide (HCI.out.later HBW.out)
   clear hCr
   rcases hk with rfl | rfl
   · go_wp2_with fail
     refine (far0_tg pv cv pi ci pn cn pb cb wr).mono ?_
     rintro e w5 ⟨rfl, hb5⟩
     have j0 := cell_later hb5 k0
     have j1 := cell_later hb5 k1
     have j2 := cell_later hb5 k2
     have j3 := cell_later hb5 k3
     have j4 := cell_later hb5 k4
     have j5 := cell_later hb5 k5
     have j6 := cell_later hb5 k6
     have j7 := cell_later hb5 k7
     have HB5 := hide (bthen HBW.out hb5)
     have HC5 := hide (HCr.out.later hb5)
     clear hb5 k0 k1 k2 k3 k4 k5 k6 k7
     go_wp2_with fail
     refine (reach0_tg pv cv pi ci pn cn pb cb w5 HC5.out).mono ?_
     rintro e w6 ⟨q, n, c, rfl, _, hb6⟩
     have HB6 := hide (bthen HB5.out hb6)
     clear hb6 HB5 HC5 j0 j1 j2 j3 j4 j5 j6 j7
     go_wp2
     go_roundw
     case rel => exact ⟨1, by go_num, Or.inr rfl, HB6⟩
     case measure => simp [intOf]
   · go_wp2_with fail
     refine (far1_tg pv cv pi ci pn cn pb cb wr HCr.out).mono ?_
     rintro e w5 ⟨rfl, hb5⟩
     have j0 := cell_later hb5 k0
     have j1 := cell_later hb5 k1
     have j2 := cell_later hb5 k2
     have j3 := cell_later hb5 k3
     have j4 := cell_later hb5 k4
     have j5 := cell_later hb5 k5
     have j6 := cell_later hb5 k6
     have j7 := cell_later hb5 k7
     have HB5 := hide (bthen HBW.out hb5)
     have HC5 := hide (HCr.out.later hb5)
     clear hb5 k0 k1 k2 k3 k4 k5 k6 k7
     go_wp2_with fail
     refine (reach1_tg pv cv pi ci pn cn pb cb w5 HC5.out).mono ?_
     rintro e w6 ⟨q, n, c, rfl, ⟨rfl, rfl, hq⟩, hb6⟩
     have k0 := cell_later hb6 j0
     have k1 := cell_later hb6 j1
     have k2 := cell_later hb6 j2
     have k3 := cell_later hb6 j3
     have k4 := cell_later hb6 j4
     have k5 := cell_later hb6 j5
     have k6 := cell_later hb6 j6
     have k7 := cell_later hb6 j7
     have HB6 := hide (bthen HB5.out hb6)
     have hm6 := (HB6.out.block _ (Array.getElem?_eq_some_iff.1 HM4.out).1).trans HM4.out
     have m0 : w6.cell? ⟨w.heap.size, 0, none⟩ = some (.slice (some ⟨B0, 0, none⟩) 3 3) := by rw [Lib.cell_of_heap hm6]; rfl
     have m1 : w6.cell? ⟨w.heap.size, 1, none⟩ = some (.slice (some ⟨B1, 0, none⟩) 1 1) := by rw [Lib.cell_of_heap hm6]; rfl
     have m2 : w6.cell? ⟨w.heap.size, 2, none⟩ = some (.slice (some ⟨B2, 0, none⟩) 1 1) := by rw [Lib.cell_of_heap hm6]; rfl
     have m3 : w6.cell? ⟨w.heap.size, 3, none⟩ = some (.slice (some ⟨B3, 0, none⟩) 1 1) := by rw [Lib.cell_of_heap hm6]; rfl
     have m4 : w6.cell? ⟨w.heap.size, 4, none⟩ = some (.slice none 0 0) := by rw [Lib.cell_of_heap hm6]; rfl
     have HTO := hide (traceOf_tg B0 B1 B2 B3 (tgC pv cv pi ci pn cn pb cb) rfl rfl rfl q w6 (HTG.out.later (bthen HB4.out HB6.out)) hq)
     clear hb6 hm6 hq HB5 HC5 j0 j1 j2 j3 j4 j5 j6 j7
     go_wp2_with fail
     refine HTO.out.mono ?_
     rintro e w7 ⟨⟨p0, c0, p1, c1, rfl⟩, hb7⟩
     have HB7 := hide (bthen HB6.out hb7)
     have HR := hide (g59 ((HB7.out.block _ (Array.getElem?_eq_some_iff.1 HG4.out).1).trans HG4.out))
     obtain ⟨r0, r1, f0, f1⟩ := HR.out.1
     have HEB := hide ((((bthen HB4.out HB7.out).setCell (p := ⟨w.heap.size + 1, 0, none⟩) (show w.heap.size ≤ w.heap.size + 1 by omega) (.slice p0 1 c0)).setCell (p := ⟨w.heap.size + 1, 1, none⟩) (show w.heap.size ≤ w.heap.size + 1 by omega) (.slice p1 2 c1)))
     clear hb7 HTO k0 k1 k2 k3 k4 k5 k6 k7 m0 m1 m2 m3 m4 HB6
     go_wp2
     refine bodyPost_ret (res59 rfl _ rfl (HR.out.2 _ _)) rfl ?_
     exact ⟨⟨_, _, _, _, rfl⟩, HEB.out⟩
set_option maxHeartbeats 4000000 in
theorem unrollBegun_any (w : World) : Calls Tryz.prog 8 #[] w fun e w' => e = .returned (.bool true) ∧ Below w.heap.size w w' := by
 have HTA := hide (Ev.toggle_any w)
 go_enter Tryz.func8, Tryz.ntmps8
 go_wp2_with fail
 refine HTA.out.mono ?_
 rintro e w1 ⟨B0, B1, B2, B3, rfl, h0, h1, h2, h3, hb1⟩
 have HF := hide (find_tg B0 B1 B2 B3 w1 ⟨h0, h1, h2, h3⟩)
 have HB1 := hide hb1
 clear h0 h1 h2 h3 hb1 HTA
 go_wp2_with fail
 refine HF.out.mono ?_
 rintro e w2 ⟨⟨p0, c0, p1, c1, rfl⟩, hb2⟩
 have HB2 := hide (bthen HB1.out hb2)
 clear hb2 HF HB1
 go_wp2
 go_ret
 exact ⟨rfl, bal HB2.out _⟩
end Go.Proofs.YtjhkecnnhddhbaaGreatDoor.Sr
