/- What must be in any case: two models are searched for proofs. -/
import Derived.Test.YtmambfdimeeijaaGreatDoorNi
namespace Go.Proofs.YtmambfdimeeijaaGreatDoor.Sr
open Go.RowKit Go.Maps
set_option maxRecDepth 100000
abbrev tgV (pv : Option Addr) (cv : Nat) (pi : Option Addr) (ci : Nat) (pn : Option Addr) (cn : Nat) (pb : Option Addr) (cb : Nat) : Value := .agg #[.int .i64 1, .slice pv 0 cv, .int .i64 0, .int .i64 1, .slice pi 1 ci, .slice pn 1 cn, .slice pb 1 cb, .slice none 0 0]
section
variable (pv : Option Addr) (cv : Nat) (pi : Option Addr) (ci : Nat) (pn : Option Addr) (cn : Nat) (pb : Option Addr) (cb : Nat)
theorem far0_tg (w : World) : Calls Tryz.prog 68 #[tgV pv cv pi ci pn cn pb cb, .int .i64 0, .int .i64 1000] w fun e w' => e = .returned (.bool false) ∧ Below w.heap.size w w' :=
 isFar0 1 (.slice pv 0 cv) (.slice pi 1 ci) (.slice pn 1 cn) (.slice pb 1 cb) (.slice none 0 0) 1000 w
theorem far1_tg (w : World) (h : CIn w (tgC 3 pv cv pi ci pn cn pb cb)) : Calls Tryz.prog 68 #[tgV pv cv pi ci pn cn pb cb, .int .i64 1, .int .i64 1000] w fun e w' => e = .returned (.bool false) ∧ Below w.heap.size w w' :=
 isFar1 1 (.slice pv 0 cv) (.slice pi 1 ci) (.slice pn 1 cn) (.slice pb 1 cb) (.slice none 0 0) 1000 125 1 (by kernel_rfl) w (fun W hb =>
   approach1 1 (.slice pv 0 cv) (.slice pi 1 ci) (.slice pn 1 cn) (.slice pb 1 cb) (.slice none 0 0) 3 u2 125 1 (by decide) W (fun W' hb' => clU2 ((h.later hb).later hb')) (fun p cap rs W' hC hn => solveU2 p cap rs W' hC hn))
theorem appr1_tg (w : World) (h : CIn w (tgC 0 pv cv pi ci pn cn pb cb)) : Calls Tryz.prog 69 #[tgV pv cv pi ci pn cn pb cb, .int .i64 1, .int .i64 1000] w (ApOut w 2) :=
 approach1 1 (.slice pv 0 cv) (.slice pi 1 ci) (.slice pn 1 cn) (.slice pb 1 cb) (.slice none 0 0) 3 u3 1000 2 (by decide) w (fun W' hb' => clU3 (h.later hb')) (fun p cap rs W' hC hn => solveU3 p cap rs W' hC hn)
theorem reach0_tg {z y : Int} (hz : Ev.Zy z y) (w : World) (h : CIn w (tgC y pv cv pi ci pn cn pb cb)) : Calls Tryz.prog 70 #[tgV pv cv pi ci pn cn pb cb, .int .i64 0, .int .i64 1000] w (HvOut w 2 (fun _ _ _ _ => True)) :=
 reach0 1 (.slice pv 0 cv) 1 (by decide) (.slice pi 1 ci) (.slice pn 1 cn) (.slice pb 1 cb) (.slice none 0 0) 0 (by decide) 1 u0 1000 2 (by decide) (fun _ _ _ _ => True) (fun _ _ _ _ _ _ _ => trivial) w (fun W hb => clU0 hz (h.later hb)) (fun p cap rs W hC hn => solveU0 p cap rs W hC hn)
theorem reach1_tg (w : World) (h : CIn w (tgC 3 pv cv pi ci pn cn pb cb)) : Calls Tryz.prog 70 #[tgV pv cv pi ci pn cn pb cb, .int .i64 1, .int .i64 1000] w (HvOut w 1 (fun q n c w => n = 2 ∧ c = 2 ∧ BoolsAt w q [false, true])) :=
 reach0 1 (.slice pv 0 cv) 1 (by decide) (.slice pi 1 ci) (.slice pn 1 cn) (.slice pb 1 cb) (.slice none 0 0) 1 (by decide) 2 u1 1000 1 (by decide) (fun q n c w => n = 2 ∧ c = 2 ∧ BoolsAt w q [false, true]) (fun _ _ _ _ _ ⟨h1, h2, h3⟩ hb => ⟨h1, h2, h3.later hb⟩) w (fun W hb => clU1 (h.later hb)) (fun p cap rs W hC hn => solveU1 p cap rs W hC hn)
set_option maxHeartbeats 4000000 in
theorem appr2_tg (fuel : Int) (w : World) : Calls Tryz.prog 69 #[tgV pv cv pi ci pn cn pb cb, .int .i64 2, .int .i64 fuel] w (ApOut w 2) := by
 have x3 : (w.alloc (.cells #[.int .i64 1, .slice pv 0 cv, .int .i64 0, .int .i64 1, .slice pi 1 ci, .slice pn 1 cn, .slice pb 1 cb, .slice none 0 0] 27)).cell? ⟨w.heap.size, 3, none⟩ = some (.int .i64 1) := by simp [go_sem]
 have HB1 : Hid (Below w.heap.size w (w.alloc (.cells #[.int .i64 1, .slice pv 0 cv, .int .i64 0, .int .i64 1, .slice pi 1 ci, .slice pn 1 cn, .slice pb 1 cb, .slice none 0 0] 27))) := bal (Below.refl _ _) _
 go_enter Tryz.func69, Tryz.ntmps69
 go_wp2_with fail
 go_quiet ((go_at_call 99; refine Calls.quiet_of_same (Tryz.bits_Len 2 _ (by decide) (by decide))))
 rename_i hK
 refine hK _ _ ?_
 clear hK
 have HB2 := hide (below_drewN HB1.out nq)
 clear HB1 x3
 generalize (w.alloc (.cells #[.int .i64 1, .slice pv 0 cv, .int .i64 0, .int .i64 1, .slice pi 1 ci, .slice pn 1 cn, .slice pb 1 cb, .slice none 0 0] 27)).drewN nq = w2 at *
 have hbl : decide ((1 : Int) < (Lib.bitLen (2 : Int).toNat : Int)) = true := by decide +kernel
 go_wp2
 go_ret
 exact ⟨rfl, HB2.out⟩
def AppOut (w : World) (nb : Int) (e : Ending) (w' : World) : Prop := e = .returned (.tuple #[.int .i64 2, .int .i64 nb]) ∧ Below w.heap.size w w'
set_option maxHeartbeats 4000000 in
theorem app36_one (w : World) (h : CIn w (tgC 0 pv cv pi ci pn cn pb cb)) : Calls Tryz.prog 36 #[tgV pv cv pi ci pn cn pb cb, .int .i64 1, .int .i64 1000] w (AppOut w 1) := by
 have hb1 : Below w.heap.size w (w.alloc (.cells #[.int .i64 1, .slice pv 0 cv, .int .i64 0, .int .i64 1, .slice pi 1 ci, .slice pn 1 cn, .slice pb 1 cb, .slice none 0 0] 27)) := bal (Below.refl _ _) _
 have hC : (w.alloc (.cells #[.int .i64 1, .slice pv 0 cv, .int .i64 0, .int .i64 1, .slice pi 1 ci, .slice pn 1 cn, .slice pb 1 cb, .slice none 0 0] 27)).heap[w.heap.size]? = some (.cells #[.int .i64 1, .slice pv 0 cv, .int .i64 0, .int .i64 1, .slice pi 1 ci, .slice pn 1 cn, .slice pb 1 cb, .slice none 0 0] 27) := alloc_at rfl
 have HA := hide (appr1_tg pv cv pi ci pn cn pb cb _ (h.later hb1))
 have k0 : (w.alloc (.cells #[.int .i64 1, .slice pv 0 cv, .int .i64 0, .int .i64 1, .slice pi 1 ci, .slice pn 1 cn, .slice pb 1 cb, .slice none 0 0] 27)).cell? ⟨w.heap.size, 0, none⟩ = some (.int .i64 1) := by rw [Lib.cell_of_heap hC]; rfl
 have k1 : (w.alloc (.cells #[.int .i64 1, .slice pv 0 cv, .int .i64 0, .int .i64 1, .slice pi 1 ci, .slice pn 1 cn, .slice pb 1 cb, .slice none 0 0] 27)).cell? ⟨w.heap.size, 1, none⟩ = some (.slice pv 0 cv) := by rw [Lib.cell_of_heap hC]; rfl
 have k2 : (w.alloc (.cells #[.int .i64 1, .slice pv 0 cv, .int .i64 0, .int .i64 1, .slice pi 1 ci, .slice pn 1 cn, .slice pb 1 cb, .slice none 0 0] 27)).cell? ⟨w.heap.size, 2, none⟩ = some (.int .i64 0) := by rw [Lib.cell_of_heap hC]; rfl
 have k3 : (w.alloc (.cells #[.int .i64 1, .slice pv 0 cv, .int .i64 0, .int .i64 1, .slice pi 1 ci, .slice pn 1 cn, .slice pb 1 cb, .slice none 0 0] 27)).cell? ⟨w.heap.size, 3, none⟩ = some (.int .i64 1) := by rw [Lib.cell_of_heap hC]; rfl
 have k4 : (w.alloc (.cells #[.int .i64 1, .slice pv 0 cv, .int .i64 0, .int .i64 1, .slice pi 1 ci, .slice pn 1 cn, .slice pb 1 cb, .slice none 0 0] 27)).cell? ⟨w.heap.size, 4, none⟩ = some (.slice pi 1 ci) := by rw [Lib.cell_of_heap hC]; rfl
 have k5 : (w.alloc (.cells #[.int .i64 1, .slice pv 0 cv, .int .i64 0, .int .i64 1, .slice pi 1 ci, .slice pn 1 cn, .slice pb 1 cb, .slice none 0 0] 27)).cell? ⟨w.heap.size, 5, none⟩ = some (.slice pn 1 cn) := by rw [Lib.cell_of_heap hC]; rfl
 have k6 : (w.alloc (.cells #[.int .i64 1, .slice pv 0 cv, .int .i64 0, .int .i64 1, .slice pi 1 ci, .slice pn 1 cn, .slice pb 1 cb, .slice none 0 0] 27)).cell? ⟨w.heap.size, 6, none⟩ = some (.slice pb 1 cb) := by rw [Lib.cell_of_heap hC]; rfl
 have k7 : (w.alloc (.cells #[.int .i64 1, .slice pv 0 cv, .int .i64 0, .int .i64 1, .slice pi 1 ci, .slice pn 1 cn, .slice pb 1 cb, .slice none 0 0] 27)).cell? ⟨w.heap.size, 7, none⟩ = some (.slice none 0 0) := by rw [Lib.cell_of_heap hC]; rfl
 have HB1 := hide hb1
 clear hb1 h hC
 go_enter Tryz.func36, Tryz.ntmps36
 go_wp2_with fail
 generalize w.alloc (.cells #[.int .i64 1, .slice pv 0 cv, .int .i64 0, .int .i64 1, .slice pi 1 ci, .slice pn 1 cn, .slice pb 1 cb, .slice none 0 0] 27) = w1 at *
 go_loopw [8] (fun i wr => i = .int .i64 1 ∧ wr = w1) (fun _ _ => 0)
 case atStart => exact ⟨rfl, rfl⟩
 case round =>
   obtain ⟨rfl, hw⟩ := hrel
   obtain rfl : w1 = wr := hw.symm
   clear hw
   go_wp2_with fail
   refine HA.out.mono ?_
   rintro e w2 ⟨rfl, hb2⟩
   have HB2 := hide (bthen HB1.out hb2)
   clear hb2 HA HB1 k0 k1 k2 k3 k4 k5 k6 k7
   go_wp2
   go_ret2
   exact ⟨rfl, HB2.out⟩
set_option maxHeartbeats 4000000 in
theorem app36_two (w : World) (h : CIn w (tgC 3 pv cv pi ci pn cn pb cb)) : Calls Tryz.prog 36 #[tgV pv cv pi ci pn cn pb cb, .int .i64 2, .int .i64 1000] w (AppOut w 2) := by
 have hb1 : Below w.heap.size w (w.alloc (.cells #[.int .i64 1, .slice pv 0 cv, .int .i64 0, .int .i64 1, .slice pi 1 ci, .slice pn 1 cn, .slice pb 1 cb, .slice none 0 0] 27)) := bal (Below.refl _ _) _
 have HC : Hid ((w.alloc (.cells #[.int .i64 1, .slice pv 0 cv, .int .i64 0, .int .i64 1, .slice pi 1 ci, .slice pn 1 cn, .slice pb 1 cb, .slice none 0 0] 27)).heap[w.heap.size]? = some (.cells #[.int .i64 1, .slice pv 0 cv, .int .i64 0, .int .i64 1, .slice pi 1 ci, .slice pn 1 cn, .slice pb 1 cb, .slice none 0 0] 27)) := alloc_at rfl
 have HF := hide (far1_tg pv cv pi ci pn cn pb cb _ (h.later hb1))
 have HA := hide (fun W => appr2_tg pv cv pi ci pn cn pb cb 1000 W)
 have k0 : (w.alloc (.cells #[.int .i64 1, .slice pv 0 cv, .int .i64 0, .int .i64 1, .slice pi 1 ci, .slice pn 1 cn, .slice pb 1 cb, .slice none 0 0] 27)).cell? ⟨w.heap.size, 0, none⟩ = some (.int .i64 1) := by rw [Lib.cell_of_heap HC.out]; rfl
 have k1 : (w.alloc (.cells #[.int .i64 1, .slice pv 0 cv, .int .i64 0, .int .i64 1, .slice pi 1 ci, .slice pn 1 cn, .slice pb 1 cb, .slice none 0 0] 27)).cell? ⟨w.heap.size, 1, none⟩ = some (.slice pv 0 cv) := by rw [Lib.cell_of_heap HC.out]; rfl
 have k2 : (w.alloc (.cells #[.int .i64 1, .slice pv 0 cv, .int .i64 0, .int .i64 1, .slice pi 1 ci, .slice pn 1 cn, .slice pb 1 cb, .slice none 0 0] 27)).cell? ⟨w.heap.size, 2, none⟩ = some (.int .i64 0) := by rw [Lib.cell_of_heap HC.out]; rfl
 have k3 : (w.alloc (.cells #[.int .i64 1, .slice pv 0 cv, .int .i64 0, .int .i64 1, .slice pi 1 ci, .slice pn 1 cn, .slice pb 1 cb, .slice none 0 0] 27)).cell? ⟨w.heap.size, 3, none⟩ = some (.int .i64 1) := by rw [Lib.cell_of_heap HC.out]; rfl
 have k4 : (w.alloc (.cells #[.int .i64 1, .slice pv 0 cv, .int .i64 0, .int .i64 1, .slice pi 1 ci, .slice pn 1 cn, .slice pb 1 cb, .slice none 0 0] 27)).cell? ⟨w.heap.size, 4, none⟩ = some (.slice pi 1 ci) := by rw [Lib.cell_of_heap HC.out]; rfl
 have k5 : (w.alloc (.cells #[.int .i64 1, .slice pv 0 cv, .int .i64 0, .int .i64 1, .slice pi 1 ci, .slice pn 1 cn, .slice pb 1 cb, .slice none 0 0] 27)).cell? ⟨w.heap.size, 5, none⟩ = some (.slice pn 1 cn) := by rw [Lib.cell_of_heap HC.out]; rfl
 have k6 : (w.alloc (.cells #[.int .i64 1, .slice pv 0 cv, .int .i64 0, .int .i64 1, .slice pi 1 ci, .slice pn 1 cn, .slice pb 1 cb, .slice none 0 0] 27)).cell? ⟨w.heap.size, 6, none⟩ = some (.slice pb 1 cb) := by rw [Lib.cell_of_heap HC.out]; rfl
 have k7 : (w.alloc (.cells #[.int .i64 1, .slice pv 0 cv, .int .i64 0, .int .i64 1, .slice pi 1 ci, .slice pn 1 cn, .slice pb 1 cb, .slice none 0 0] 27)).cell? ⟨w.heap.size, 7, none⟩ = some (.slice none 0 0) := by rw [Lib.cell_of_heap HC.out]; rfl
 have HB1 := hide hb1
 clear hb1 h
 go_enter Tryz.func36, Tryz.ntmps36
 go_wp2_with fail
 generalize w.alloc (.cells #[.int .i64 1, .slice pv 0 cv, .int .i64 0, .int .i64 1, .slice pi 1 ci, .slice pn 1 cn, .slice pb 1 cb, .slice none 0 0] 27) = w1 at *
 go_loopw [8] (fun i wr => ∃ k : Nat, (k = 1 ∨ k = 2) ∧ i = .int .i64 k ∧ Hid ((k = 1 → wr = w1) ∧ Below w1.heap.size w1 wr)) (fun i _ => 2 - (intOf i).toNat)
 case atStart => exact ⟨1, Or.inl rfl, rfl, fun _ => rfl, Below.refl _ _⟩
 case round =>
   obtain ⟨k, hk, rfl, HR⟩ := hrel
   rcases hk with rfl | rfl
   · obtain rfl : w1 = wr := (HR.out.1 rfl).symm
     go_wp2_with fail
     refine HF.out.mono ?_
     rintro e w2 ⟨rfl, hb2⟩
     have HN : Hid ((2 = 1 → w2 = w1) ∧ Below w1.heap.size w1 w2) := ⟨(fun e => by cases e), hb2⟩
     clear hb2 HF k0 k1 k2 k3 k4 k5 k6 k7 HR
     go_wp2
     go_roundw
     case rel => exact ⟨2, Or.inr rfl, by go_num, HN⟩
     case measure => simp [intOf]
   · have hbr := HR.out.2
     clear k0 k1 k2 k3 k4 k5 k6 k7
     have hC := (hbr.block _ (Array.getElem?_eq_some_iff.1 HC.out).1).trans HC.out
     have k0 : wr.cell? ⟨w.heap.size, 0, none⟩ = some (.int .i64 1) := by rw [Lib.cell_of_heap hC]; rfl
     have k1 : wr.cell? ⟨w.heap.size, 1, none⟩ = some (.slice pv 0 cv) := by rw [Lib.cell_of_heap hC]; rfl
     have k2 : wr.cell? ⟨w.heap.size, 2, none⟩ = some (.int .i64 0) := by rw [Lib.cell_of_heap hC]; rfl
     have k3 : wr.cell? ⟨w.heap.size, 3, none⟩ = some (.int .i64 1) := by rw [Lib.cell_of_heap hC]; rfl
     have k4 : wr.cell? ⟨w.heap.size, 4, none⟩ = some (.slice pi 1 ci) := by rw [Lib.cell_of_heap hC]; rfl
     have k5 : wr.cell? ⟨w.heap.size, 5, none⟩ = some (.slice pn 1 cn) := by rw [Lib.cell_of_heap hC]; rfl
     have k6 : wr.cell? ⟨w.heap.size, 6, none⟩ = some (.slice pb 1 cb) := by rw [Lib.cell_of_heap hC]; rfl
     have k7 : wr.cell? ⟨w.heap.size, 7, none⟩ = some (.slice none 0 0) := by rw [Lib.cell_of_heap hC]; rfl
     have HBR := hide (bthen HB1.out hbr)
     clear hbr hC HR HF
     go_wp2_with fail
     refine (HA.out _).mono ?_
     rintro e w2 ⟨rfl, hb2⟩
     have HB2 := hide (bthen HBR.out hb2)
     clear hb2 HA HB1 HBR k0 k1 k2 k3 k4 k5 k6 k7
     go_wp2
     go_ret2
     exact ⟨rfl, HB2.out⟩
end
theorem res79 {fn : Func} {p u v : Tmp} (h : fn.results = #[.cell p 79, .tmp u, .tmp v]) (tmps : Array Value) {w : World} {R : Nat} {a b : Value} (hp : tmps.getD p undef = .pointer (some ⟨R, 0, none⟩)) (hg : w.heap[R]? = some (.cells #[a, b] 79)) :
    (results fn tmps).run Tryz.prog w = .ok (.tuple #[.agg #[a, b], tmps.getD u undef, tmps.getD v undef]) w := by
  have hld := run_loadVar_row (P := Tryz.prog) _ R 79 79 _ _ _ hg Tryz.underlying79 rfl (by kernel_rfl)
  have hp' : tmps[p]?.getD undef = .pointer (some ⟨R, 0, none⟩) := by simpa using hp
  simp only [results, h]
  simp [Result.andThen, hp', asAddr, hld]
set_option maxHeartbeats 16000000 in
theorem find_tg (B0 B1 B2 B3 : Nat) (w : World) (hT : Ev.TgAt w B0 B1 B2 B3 2) :
    Calls Tryz.prog 37 #[Ev.Mv.val (Ev.tgM B0 B1 B2 B3) 3, .int .i64 1, .int .i64 1000] w fun e w' => (∃ p0 c0 p1 c1, e = .returned (.tuple #[.agg #[.slice p0 1 c0, .slice p1 2 c1], .int .i64 1, .int .i64 0])) ∧ Below w.heap.size w w' := by
  have hz : Ev.Zy 2 3 := Or.inl ⟨rfl, rfl⟩
  have hz0 := hz
  have hb2 : Below w.heap.size w ((w.alloc (.cells (Ev.Mv.cells (Ev.tgM B0 B1 B2 B3) 3) 51)).alloc (.cells #[.slice none 0 0, .slice none 0 0] 79)) := bal (bal (Below.refl _ _) _) _
  have HBL := hide (Ev.blastT_any hz B0 B1 B2 B3 _ (hT.later hb2))
  have hg : ((w.alloc (.cells (Ev.Mv.cells (Ev.tgM B0 B1 B2 B3) 3) 51)).alloc (.cells #[.slice none 0 0, .slice none 0 0] 79)).heap[w.heap.size + 1]? = some (.cells #[.slice none 0 0, .slice none 0 0] 79) := alloc_at (by simp)
  have hm : ((w.alloc (.cells (Ev.Mv.cells (Ev.tgM B0 B1 B2 B3) 3) 51)).alloc (.cells #[.slice none 0 0, .slice none 0 0] 79)).heap[w.heap.size]? = some (.cells (Ev.Mv.cells (Ev.tgM B0 B1 B2 B3) 3) 51) := ((bal (Below.refl _ (w.alloc (.cells (Ev.Mv.cells (Ev.tgM B0 B1 B2 B3) 3) 51))) _).block _ (by simp)).trans (alloc_at rfl)
  have HTG := hide hT
  have HB2 := hide hb2
  have HG := hide hg
  have HM := hide hm
  have HZ0 := hide hz0
  clear hT hb2 hg hm hz hz0
  go_enter Tryz.func37, Tryz.ntmps37
  go_wp2_with fail
  generalize (w.alloc (.cells (Ev.Mv.cells (Ev.tgM B0 B1 B2 B3) 3) 51)).alloc (.cells #[.slice none 0 0, .slice none 0 0] 79) = w2 at *
  refine HBL.out.mono ?_
  rintro e w3 ⟨pv, cv, pi, ci, pn, cn, pb, cb, rfl, h1, h2, h3, hb3⟩
  have hb4 : Below w3.heap.size w3 (w3.alloc (.cells #[.int .i64 1, .slice pv 0 cv, .int .i64 0, .int .i64 1, .slice pi 1 ci, .slice pn 1 cn, .slice pb 1 cb, .slice none 0 0] 27)) := bal (Below.refl _ _) _
  have hC : (w3.alloc (.cells #[.int .i64 1, .slice pv 0 cv, .int .i64 0, .int .i64 1, .slice pi 1 ci, .slice pn 1 cn, .slice pb 1 cb, .slice none 0 0] 27)).heap[w3.heap.size]? = some (.cells #[.int .i64 1, .slice pv 0 cv, .int .i64 0, .int .i64 1, .slice pi 1 ci, .slice pn 1 cn, .slice pb 1 cb, .slice none 0 0] 27) := alloc_at rfl
  have HCI := hide ((tgC_in (y := 3) (pv := pv) (cv := cv) (pi := pi) (ci := ci) (pn := pn) (cn := cn) (pb := pb) (cb := cb) (show IntsAt w3 pi [0] from h1) h2 h3).later hb4)
  have HC := hide hC
  have HB4 := hide (bthen (bthen HB2.out hb3) hb4)
  have HG4 := hide ((hb4.block _ (by have := (Array.getElem?_eq_some_iff.1 HG.out).1; have := hb3.size; omega)).trans ((hb3.block _ (Array.getElem?_eq_some_iff.1 HG.out).1).trans HG.out))
  have HM4 := hide ((hb4.block _ (by have := (Array.getElem?_eq_some_iff.1 HM.out).1; have := hb3.size; omega)).trans ((hb3.block _ (Array.getElem?_eq_some_iff.1 HM.out).1).trans HM.out))
  clear HBL HG HM HB2 h1 h2 h3 hb3 hb4 hC
  go_wp2
  generalize w3.alloc (.cells #[.int .i64 1, .slice pv 0 cv, .int .i64 0, .int .i64 1, .slice pi 1 ci, .slice pn 1 cn, .slice pb 1 cb, .slice none 0 0] 27) = w4 at *
  generalize w3.heap.size = U at *
  go_loopw [40] (fun i wr => ∃ k : Nat, i = .int .i64 k ∧ (k = 0 ∨ k = 1) ∧ Hid (Below w4.heap.size w4 wr)) (fun i _ => 2 - (intOf i).toNat)
  case atStart => exact ⟨0, rfl, Or.inl rfl, Below.refl _ _⟩
  case round =>
    obtain ⟨k, rfl, hk, HBW⟩ := hrel
    have hCr := (HBW.out.block _ (Array.getElem?_eq_some_iff.1 HC.out).1).trans HC.out
    have HCR := hide hCr
    have k0 : wr.cell? ⟨U, 0, none⟩ = some (.int .i64 1) := by rw [Lib.cell_of_heap hCr]; rfl
    have k1 : wr.cell? ⟨U, 1, none⟩ = some (.slice pv 0 cv) := by rw [Lib.cell_of_heap hCr]; rfl
    have k2 : wr.cell? ⟨U, 2, none⟩ = some (.int .i64 0) := by rw [Lib.cell_of_heap hCr]; rfl
    have k3 : wr.cell? ⟨U, 3, none⟩ = some (.int .i64 1) := by rw [Lib.cell_of_heap hCr]; rfl
    have k4 : wr.cell? ⟨U, 4, none⟩ = some (.slice pi 1 ci) := by rw [Lib.cell_of_heap hCr]; rfl
    have k5 : wr.cell? ⟨U, 5, none⟩ = some (.slice pn 1 cn) := by rw [Lib.cell_of_heap hCr]; rfl
    have k6 : wr.cell? ⟨U, 6, none⟩ = some (.slice pb 1 cb) := by rw [Lib.cell_of_heap hCr]; rfl
    have k7 : wr.cell? ⟨U, 7, none⟩ = some (.slice none 0 0) := by rw [Lib.cell_of_heap hCr]; rfl
    have HCr := hide (HCI.out.later HBW.out)
    clear hCr
    rcases hk with rfl | rfl
    · go_wp2_with fail
      refine (far0_tg pv cv pi ci pn cn pb cb wr).mono ?_
      rintro e w5 ⟨rfl, hb5⟩
      have j0 := cell_later hb5 k0
      have j1 := cell_later hb5 k1
      have j2 := cell_later hb5 k2
      have j3 := cell_later hb5 k3
      have j4 := cell_later hb5 k4
      have j5 := cell_later hb5 k5
      have j6 := cell_later hb5 k6
      have j7 := cell_later hb5 k7
      have HB5 := hide (bthen HBW.out hb5)
      have HC5 := hide (HCr.out.later hb5)
      clear hb5 k0 k1 k2 k3 k4 k5 k6 k7
      go_wp2_with fail
      refine (reach0_tg pv cv pi ci pn cn pb cb HZ0.out w5 HC5.out).mono ?_
      rintro e w6 ⟨q, n, c, rfl, _, hb6⟩
      have HB6 := hide (bthen HB5.out hb6)
      clear hb6 HB5 HC5 j0 j1 j2 j3 j4 j5 j6 j7
      go_wp2
      go_roundw
      case rel => exact ⟨1, by go_num, Or.inr rfl, HB6⟩
      case measure => simp [intOf]
    · go_wp2_with fail
      refine (far1_tg pv cv pi ci pn cn pb cb wr HCr.out).mono ?_
      rintro e w5 ⟨rfl, hb5⟩
      have j0 := cell_later hb5 k0
      have j1 := cell_later hb5 k1
      have j2 := cell_later hb5 k2
      have j3 := cell_later hb5 k3
      have j4 := cell_later hb5 k4
      have j5 := cell_later hb5 k5
      have j6 := cell_later hb5 k6
      have j7 := cell_later hb5 k7
      have HB5 := hide (bthen HBW.out hb5)
      have HC5 := hide (HCr.out.later hb5)
      clear hb5 k0 k1 k2 k3 k4 k5 k6 k7
      go_wp2_with fail
      refine (reach1_tg pv cv pi ci pn cn pb cb w5 HC5.out).mono ?_
      rintro e w6 ⟨q, n, c, rfl, ⟨rfl, rfl, hq⟩, hb6⟩
      have k0 := cell_later hb6 j0
      have k1 := cell_later hb6 j1
      have k2 := cell_later hb6 j2
      have k3 := cell_later hb6 j3
      have k4 := cell_later hb6 j4
      have k5 := cell_later hb6 j5
      have k6 := cell_later hb6 j6
      have k7 := cell_later hb6 j7
      have HB6 := hide (bthen HB5.out hb6)
      have hm6 := (HB6.out.block _ (Array.getElem?_eq_some_iff.1 HM4.out).1).trans HM4.out
      have m0 : w6.cell? ⟨w.heap.size, 0, none⟩ = some (.slice (some ⟨B0, 0, none⟩) 3 3) := by rw [Lib.cell_of_heap hm6]; rfl
      have m1 : w6.cell? ⟨w.heap.size, 1, none⟩ = some (.slice (some ⟨B1, 0, none⟩) 1 1) := by rw [Lib.cell_of_heap hm6]; rfl
      have m2 : w6.cell? ⟨w.heap.size, 2, none⟩ = some (.slice (some ⟨B2, 0, none⟩) 1 1) := by rw [Lib.cell_of_heap hm6]; rfl
      have m3 : w6.cell? ⟨w.heap.size, 3, none⟩ = some (.slice (some ⟨B3, 0, none⟩) 1 1) := by rw [Lib.cell_of_heap hm6]; rfl
      have m4 : w6.cell? ⟨w.heap.size, 4, none⟩ = some (.slice none 0 0) := by rw [Lib.cell_of_heap hm6]; rfl
      have HTO := hide (traceOf_tg B0 B1 B2 B3 (tgC 3 pv cv pi ci pn cn pb cb) rfl rfl rfl q w6 (HTG.out.later (bthen HB4.out HB6.out)) hq)
      clear hb6 hm6 hq HB5 HC5 j0 j1 j2 j3 j4 j5 j6 j7
      go_wp2_with fail
      refine HTO.out.mono ?_
      rintro e w7 ⟨⟨p0, c0, p1, c1, rfl⟩, hb7⟩
      have HB7 := hide (bthen HB6.out hb7)
      have HR := hide (g59 ((HB7.out.block _ (Array.getElem?_eq_some_iff.1 HG4.out).1).trans HG4.out))
      obtain ⟨r0, r1, f0, f1⟩ := HR.out.1
      have HEB := hide ((((bthen HB4.out HB7.out).setCell (p := ⟨w.heap.size + 1, 0, none⟩) (show w.heap.size ≤ w.heap.size + 1 by omega) (.slice p0 1 c0)).setCell (p := ⟨w.heap.size + 1, 1, none⟩) (show w.heap.size ≤ w.heap.size + 1 by omega) (.slice p1 2 c1)))
      clear hb7 HTO k0 k1 k2 k3 k4 k5 k6 k7 m0 m1 m2 m3 m4 HB6
      go_wp2
      refine bodyPost_ret (res79 rfl _ rfl (HR.out.2 _ _)) rfl ?_
      exact ⟨⟨_, _, _, _, rfl⟩, HEB.out⟩
set_option maxHeartbeats 16000000 in
theorem find_st (B0 B1 B2 B3 : Nat) (w : World) (hT : Ev.TgAt w B0 B1 B2 B3 0) :
    Calls Tryz.prog 37 #[Ev.Mv.val (Ev.tgM B0 B1 B2 B3) 3, .int .i64 0, .int .i64 1000] w fun e w' => e = .returned (.tuple #[.agg #[.slice none 0 0, .slice none 0 0], .int .i64 (-1), .int .i64 0]) ∧ Below w.heap.size w w' := by
  have hz : Ev.Zy 0 0 := Or.inr ⟨rfl, rfl⟩
  have hz0 := hz
  have hb2 : Below w.heap.size w ((w.alloc (.cells (Ev.Mv.cells (Ev.tgM B0 B1 B2 B3) 3) 51)).alloc (.cells #[.slice none 0 0, .slice none 0 0] 79)) := bal (bal (Below.refl _ _) _) _
  have HBL := hide (Ev.blastT_any hz B0 B1 B2 B3 _ (hT.later hb2))
  have hg : ((w.alloc (.cells (Ev.Mv.cells (Ev.tgM B0 B1 B2 B3) 3) 51)).alloc (.cells #[.slice none 0 0, .slice none 0 0] 79)).heap[w.heap.size + 1]? = some (.cells #[.slice none 0 0, .slice none 0 0] 79) := alloc_at (by simp)
  have hm : ((w.alloc (.cells (Ev.Mv.cells (Ev.tgM B0 B1 B2 B3) 3) 51)).alloc (.cells #[.slice none 0 0, .slice none 0 0] 79)).heap[w.heap.size]? = some (.cells (Ev.Mv.cells (Ev.tgM B0 B1 B2 B3) 3) 51) := ((bal (Below.refl _ (w.alloc (.cells (Ev.Mv.cells (Ev.tgM B0 B1 B2 B3) 3) 51))) _).block _ (by simp)).trans (alloc_at rfl)
  have HTG := hide hT
  have HB2 := hide hb2
  have HG := hide hg
  have HM := hide hm
  have HZ0 := hide hz0
  clear hT hb2 hg hm hz hz0
  go_enter Tryz.func37, Tryz.ntmps37
  go_wp2_with fail
  generalize (w.alloc (.cells (Ev.Mv.cells (Ev.tgM B0 B1 B2 B3) 3) 51)).alloc (.cells #[.slice none 0 0, .slice none 0 0] 79) = w2 at *
  refine HBL.out.mono ?_
  rintro e w3 ⟨pv, cv, pi, ci, pn, cn, pb, cb, rfl, h1, h2, h3, hb3⟩
  have hb4 : Below w3.heap.size w3 (w3.alloc (.cells #[.int .i64 1, .slice pv 0 cv, .int .i64 0, .int .i64 1, .slice pi 1 ci, .slice pn 1 cn, .slice pb 1 cb, .slice none 0 0] 27)) := bal (Below.refl _ _) _
  have hC : (w3.alloc (.cells #[.int .i64 1, .slice pv 0 cv, .int .i64 0, .int .i64 1, .slice pi 1 ci, .slice pn 1 cn, .slice pb 1 cb, .slice none 0 0] 27)).heap[w3.heap.size]? = some (.cells #[.int .i64 1, .slice pv 0 cv, .int .i64 0, .int .i64 1, .slice pi 1 ci, .slice pn 1 cn, .slice pb 1 cb, .slice none 0 0] 27) := alloc_at rfl
  have HCI := hide ((tgC_in (y := 0) (pv := pv) (cv := cv) (pi := pi) (ci := ci) (pn := pn) (cn := cn) (pb := pb) (cb := cb) (show IntsAt w3 pi [0] from h1) h2 h3).later hb4)
  have HC := hide hC
  have HB4 := hide (bthen (bthen HB2.out hb3) hb4)
  have HG4 := hide ((hb4.block _ (by have := (Array.getElem?_eq_some_iff.1 HG.out).1; have := hb3.size; omega)).trans ((hb3.block _ (Array.getElem?_eq_some_iff.1 HG.out).1).trans HG.out))
  have HM4 := hide ((hb4.block _ (by have := (Array.getElem?_eq_some_iff.1 HM.out).1; have := hb3.size; omega)).trans ((hb3.block _ (Array.getElem?_eq_some_iff.1 HM.out).1).trans HM.out))
  clear HBL HG HM HB2 h1 h2 h3 hb3 hb4 hC
  go_wp2
  generalize w3.alloc (.cells #[.int .i64 1, .slice pv 0 cv, .int .i64 0, .int .i64 1, .slice pi 1 ci, .slice pn 1 cn, .slice pb 1 cb, .slice none 0 0] 27) = w4 at *
  generalize w3.heap.size = U at *
  go_loopw [40] (fun i wr => ∃ k : Nat, i = .int .i64 k ∧ (k = 0 ∨ k = 1) ∧ Hid (Below w4.heap.size w4 wr)) (fun i _ => 1 - (intOf i).toNat)
  case atStart => exact ⟨0, rfl, Or.inl rfl, Below.refl _ _⟩
  case round =>
    obtain ⟨k, rfl, hk, HBW⟩ := hrel
    have hCr := (HBW.out.block _ (Array.getElem?_eq_some_iff.1 HC.out).1).trans HC.out
    have HCR := hide hCr
    have k0 : wr.cell? ⟨U, 0, none⟩ = some (.int .i64 1) := by rw [Lib.cell_of_heap hCr]; rfl
    have k1 : wr.cell? ⟨U, 1, none⟩ = some (.slice pv 0 cv) := by rw [Lib.cell_of_heap hCr]; rfl
    have k2 : wr.cell? ⟨U, 2, none⟩ = some (.int .i64 0) := by rw [Lib.cell_of_heap hCr]; rfl
    have k3 : wr.cell? ⟨U, 3, none⟩ = some (.int .i64 1) := by rw [Lib.cell_of_heap hCr]; rfl
    have k4 : wr.cell? ⟨U, 4, none⟩ = some (.slice pi 1 ci) := by rw [Lib.cell_of_heap hCr]; rfl
    have k5 : wr.cell? ⟨U, 5, none⟩ = some (.slice pn 1 cn) := by rw [Lib.cell_of_heap hCr]; rfl
    have k6 : wr.cell? ⟨U, 6, none⟩ = some (.slice pb 1 cb) := by rw [Lib.cell_of_heap hCr]; rfl
    have k7 : wr.cell? ⟨U, 7, none⟩ = some (.slice none 0 0) := by rw [Lib.cell_of_heap hCr]; rfl
    have HCr := hide (HCI.out.later HBW.out)
    clear hCr
    rcases hk with rfl | rfl
    · go_wp2_with fail
      refine (far0_tg pv cv pi ci pn cn pb cb wr).mono ?_
      rintro e w5 ⟨rfl, hb5⟩
      have j0 := cell_later hb5 k0
      have j1 := cell_later hb5 k1
      have j2 := cell_later hb5 k2
      have j3 := cell_later hb5 k3
      have j4 := cell_later hb5 k4
      have j5 := cell_later hb5 k5
      have j6 := cell_later hb5 k6
      have j7 := cell_later hb5 k7
      have HB5 := hide (bthen HBW.out hb5)
      have HC5 := hide (HCr.out.later hb5)
      clear hb5 k0 k1 k2 k3 k4 k5 k6 k7
      go_wp2_with fail
      refine (reach0_tg pv cv pi ci pn cn pb cb HZ0.out w5 HC5.out).mono ?_
      rintro e w6 ⟨q, n, c, rfl, _, hb6⟩
      have HB6 := hide (bthen HB5.out hb6)
      clear hb6 HB5 HC5 j0 j1 j2 j3 j4 j5 j6 j7
      go_wp2
      go_roundw
      case rel => exact ⟨1, by go_num, Or.inr rfl, HB6⟩
      case measure => simp [intOf]
    · have HR := hide (g59 ((HBW.out.block _ (Array.getElem?_eq_some_iff.1 HG4.out).1).trans HG4.out))
      obtain ⟨r0, r1, f0, f1⟩ := HR.out.1
      have HEB := hide ((((bthen HB4.out HBW.out).setCell (p := ⟨w.heap.size + 1, 0, none⟩) (show w.heap.size ≤ w.heap.size + 1 by omega) (.slice none 0 0)).setCell (p := ⟨w.heap.size + 1, 1, none⟩) (show w.heap.size ≤ w.heap.size + 1 by omega) (.slice none 0 0)))
      clear k0 k1 k2 k3 k4 k5 k6 k7 HBW
      go_wp2
      refine bodyPost_ret (res79 rfl _ rfl (HR.out.2 _ _)) rfl ?_
      exact ⟨rfl, HEB.out⟩
set_option maxHeartbeats 8000000 in
theorem prove_st (B0 B1 B2 B3 : Nat) (w : World) (hT : Ev.TgAt w B0 B1 B2 B3 0) :
    Calls Tryz.prog 21 #[Ev.Mv.val (Ev.tgM B0 B1 B2 B3) 3, .int .i64 1, .int .i64 1000] w fun e w' => e = .returned (.tuple #[.bool true, .int .i64 0]) ∧ Below w.heap.size w w' := by
  have hb1 : Below w.heap.size w (w.alloc (.cells (Ev.Mv.cells (Ev.tgM B0 B1 B2 B3) 3) 51)) := bal (Below.refl _ _) _
  have HM : Hid ((w.alloc (.cells (Ev.Mv.cells (Ev.tgM B0 B1 B2 B3) 3) 51)).heap[w.heap.size]? = some (.cells (Ev.Mv.cells (Ev.tgM B0 B1 B2 B3) 3) 51)) := alloc_at rfl
  have HBL := hide (Ev.blastT_any (z := 0) (y := 0) (Or.inr ⟨rfl, rfl⟩) B0 B1 B2 B3 _ (hT.later hb1))
  have HTG := hide hT
  have HB1 := hide hb1
  clear hT hb1
  go_enter Tryz.func21, Tryz.ntmps21
  go_wp2_with fail
  generalize w.alloc (.cells (Ev.Mv.cells (Ev.tgM B0 B1 B2 B3) 3) 51) = w2 at *
  refine HBL.out.mono ?_
  rintro e w3 ⟨pv, cv, pi, ci, pn, cn, pb, cb, rfl, h1, h2, h3, hb3⟩
  have hb4 : Below w3.heap.size w3 (w3.alloc (.cells #[.int .i64 1, .slice pv 0 cv, .int .i64 0, .int .i64 1, .slice pi 1 ci, .slice pn 1 cn, .slice pb 1 cb, .slice none 0 0] 27)) := bal (Below.refl _ _) _
  have HC : Hid ((w3.alloc (.cells #[.int .i64 1, .slice pv 0 cv, .int .i64 0, .int .i64 1, .slice pi 1 ci, .slice pn 1 cn, .slice pb 1 cb, .slice none 0 0] 27)).heap[w3.heap.size]? = some (.cells #[.int .i64 1, .slice pv 0 cv, .int .i64 0, .int .i64 1, .slice pi 1 ci, .slice pn 1 cn, .slice pb 1 cb, .slice none 0 0] 27)) := alloc_at rfl
  have HCI := hide ((tgC_in (y := 0) (pv := pv) (cv := cv) (pi := pi) (ci := ci) (pn := pn) (cn := cn) (pb := pb) (cb := cb) (show IntsAt w3 pi [0] from h1) h2 h3).later hb4)
  have k0 : (w3.alloc (.cells #[.int .i64 1, .slice pv 0 cv, .int .i64 0, .int .i64 1, .slice pi 1 ci, .slice pn 1 cn, .slice pb 1 cb, .slice none 0 0] 27)).cell? ⟨w3.heap.size, 0, none⟩ = some (.int .i64 1) := by rw [Lib.cell_of_heap HC.out]; rfl
  have k1 : (w3.alloc (.cells #[.int .i64 1, .slice pv 0 cv, .int .i64 0, .int .i64 1, .slice pi 1 ci, .slice pn 1 cn, .slice pb 1 cb, .slice none 0 0] 27)).cell? ⟨w3.heap.size, 1, none⟩ = some (.slice pv 0 cv) := by rw [Lib.cell_of_heap HC.out]; rfl
  have k2 : (w3.alloc (.cells #[.int .i64 1, .slice pv 0 cv, .int .i64 0, .int .i64 1, .slice pi 1 ci, .slice pn 1 cn, .slice pb 1 cb, .slice none 0 0] 27)).cell? ⟨w3.heap.size, 2, none⟩ = some (.int .i64 0) := by rw [Lib.cell_of_heap HC.out]; rfl
  have k3 : (w3.alloc (.cells #[.int .i64 1, .slice pv 0 cv, .int .i64 0, .int .i64 1, .slice pi 1 ci, .slice pn 1 cn, .slice pb 1 cb, .slice none 0 0] 27)).cell? ⟨w3.heap.size, 3, none⟩ = some (.int .i64 1) := by rw [Lib.cell_of_heap HC.out]; rfl
  have k4 : (w3.alloc (.cells #[.int .i64 1, .slice pv 0 cv, .int .i64 0, .int .i64 1, .slice pi 1 ci, .slice pn 1 cn, .slice pb 1 cb, .slice none 0 0] 27)).cell? ⟨w3.heap.size, 4, none⟩ = some (.slice pi 1 ci) := by rw [Lib.cell_of_heap HC.out]; rfl
  have k5 : (w3.alloc (.cells #[.int .i64 1, .slice pv 0 cv, .int .i64 0, .int .i64 1, .slice pi 1 ci, .slice pn 1 cn, .slice pb 1 cb, .slice none 0 0] 27)).cell? ⟨w3.heap.size, 5, none⟩ = some (.slice pn 1 cn) := by rw [Lib.cell_of_heap HC.out]; rfl
  have k6 : (w3.alloc (.cells #[.int .i64 1, .slice pv 0 cv, .int .i64 0, .int .i64 1, .slice pi 1 ci, .slice pn 1 cn, .slice pb 1 cb, .slice none 0 0] 27)).cell? ⟨w3.heap.size, 6, none⟩ = some (.slice pb 1 cb) := by rw [Lib.cell_of_heap HC.out]; rfl
  have k7 : (w3.alloc (.cells #[.int .i64 1, .slice pv 0 cv, .int .i64 0, .int .i64 1, .slice pi 1 ci, .slice pn 1 cn, .slice pb 1 cb, .slice none 0 0] 27)).cell? ⟨w3.heap.size, 7, none⟩ = some (.slice none 0 0) := by rw [Lib.cell_of_heap HC.out]; rfl
  have HB4 := hide (bthen (bthen HB1.out hb3) hb4)
  have HM4 := hide ((hb4.block _ (by have := (Array.getElem?_eq_some_iff.1 HM.out).1; have := hb3.size; omega)).trans ((hb3.block _ (Array.getElem?_eq_some_iff.1 HM.out).1).trans HM.out))
  clear HBL HM HB1 h1 h2 h3 hb3 hb4 HC
  go_wp2_with fail
  generalize w3.alloc (.cells #[.int .i64 1, .slice pv 0 cv, .int .i64 0, .int .i64 1, .slice pi 1 ci, .slice pn 1 cn, .slice pb 1 cb, .slice none 0 0] 27) = w4 at *
  generalize w3.heap.size = U at *
  refine (app36_one pv cv pi ci pn cn pb cb w4 HCI.out).mono ?_
  rintro e w5 ⟨rfl, hb5⟩
  have HB5 := hide (bthen HB4.out hb5)
  have hm5 := (hb5.block _ (Array.getElem?_eq_some_iff.1 HM4.out).1).trans HM4.out
  have m0 : w5.cell? ⟨w.heap.size, 0, none⟩ = some (.slice (some ⟨B0, 0, none⟩) 3 3) := by rw [Lib.cell_of_heap hm5]; rfl
  have m1 : w5.cell? ⟨w.heap.size, 1, none⟩ = some (.slice (some ⟨B1, 0, none⟩) 1 1) := by rw [Lib.cell_of_heap hm5]; rfl
  have m2 : w5.cell? ⟨w.heap.size, 2, none⟩ = some (.slice (some ⟨B2, 0, none⟩) 1 1) := by rw [Lib.cell_of_heap hm5]; rfl
  have m3 : w5.cell? ⟨w.heap.size, 3, none⟩ = some (.slice (some ⟨B3, 0, none⟩) 1 1) := by rw [Lib.cell_of_heap hm5]; rfl
  have m4 : w5.cell? ⟨w.heap.size, 4, none⟩ = some (.slice none 0 0) := by rw [Lib.cell_of_heap hm5]; rfl
  have HF := hide (find_st B0 B1 B2 B3 w5 (HTG.out.later HB5.out))
  clear hb5 hm5 k0 k1 k2 k3 k4 k5 k6 k7
  go_wp2_with fail
  refine HF.out.mono ?_
  rintro e w6 ⟨rfl, hb6⟩
  have HB6 := hide (bal (bthen HB5.out hb6) (.cells #[.slice none 0 0, .slice none 0 0] 79))
  clear hb6 HF m0 m1 m2 m3 m4
  go_wp2
  go_ret2
  exact ⟨rfl, HB6.out⟩
set_option maxHeartbeats 8000000 in
theorem prove_tg (B0 B1 B2 B3 : Nat) (w : World) (hT : Ev.TgAt w B0 B1 B2 B3 2) :
    Calls Tryz.prog 21 #[Ev.Mv.val (Ev.tgM B0 B1 B2 B3) 3, .int .i64 2, .int .i64 1000] w fun e w' => e = .returned (.tuple #[.bool false, .int .i64 0]) ∧ Below w.heap.size w w' := by
  have hb1 : Below w.heap.size w (w.alloc (.cells (Ev.Mv.cells (Ev.tgM B0 B1 B2 B3) 3) 51)) := bal (Below.refl _ _) _
  have HM : Hid ((w.alloc (.cells (Ev.Mv.cells (Ev.tgM B0 B1 B2 B3) 3) 51)).heap[w.heap.size]? = some (.cells (Ev.Mv.cells (Ev.tgM B0 B1 B2 B3) 3) 51)) := alloc_at rfl
  have HBL := hide (Ev.blastT_any (z := 2) (y := 3) (Or.inl ⟨rfl, rfl⟩) B0 B1 B2 B3 _ (hT.later hb1))
  have HTG := hide hT
  have HB1 := hide hb1
  clear hT hb1
  go_enter Tryz.func21, Tryz.ntmps21
  go_wp2_with fail
  generalize w.alloc (.cells (Ev.Mv.cells (Ev.tgM B0 B1 B2 B3) 3) 51) = w2 at *
  refine HBL.out.mono ?_
  rintro e w3 ⟨pv, cv, pi, ci, pn, cn, pb, cb, rfl, h1, h2, h3, hb3⟩
  have hb4 : Below w3.heap.size w3 (w3.alloc (.cells #[.int .i64 1, .slice pv 0 cv, .int .i64 0, .int .i64 1, .slice pi 1 ci, .slice pn 1 cn, .slice pb 1 cb, .slice none 0 0] 27)) := bal (Below.refl _ _) _
  have HC : Hid ((w3.alloc (.cells #[.int .i64 1, .slice pv 0 cv, .int .i64 0, .int .i64 1, .slice pi 1 ci, .slice pn 1 cn, .slice pb 1 cb, .slice none 0 0] 27)).heap[w3.heap.size]? = some (.cells #[.int .i64 1, .slice pv 0 cv, .int .i64 0, .int .i64 1, .slice pi 1 ci, .slice pn 1 cn, .slice pb 1 cb, .slice none 0 0] 27)) := alloc_at rfl
  have HCI := hide ((tgC_in (y := 3) (pv := pv) (cv := cv) (pi := pi) (ci := ci) (pn := pn) (cn := cn) (pb := pb) (cb := cb) (show IntsAt w3 pi [0] from h1) h2 h3).later hb4)
  have k0 : (w3.alloc (.cells #[.int .i64 1, .slice pv 0 cv, .int .i64 0, .int .i64 1, .slice pi 1 ci, .slice pn 1 cn, .slice pb 1 cb, .slice none 0 0] 27)).cell? ⟨w3.heap.size, 0, none⟩ = some (.int .i64 1) := by rw [Lib.cell_of_heap HC.out]; rfl
  have k1 : (w3.alloc (.cells #[.int .i64 1, .slice pv 0 cv, .int .i64 0, .int .i64 1, .slice pi 1 ci, .slice pn 1 cn, .slice pb 1 cb, .slice none 0 0] 27)).cell? ⟨w3.heap.size, 1, none⟩ = some (.slice pv 0 cv) := by rw [Lib.cell_of_heap HC.out]; rfl
  have k2 : (w3.alloc (.cells #[.int .i64 1, .slice pv 0 cv, .int .i64 0, .int .i64 1, .slice pi 1 ci, .slice pn 1 cn, .slice pb 1 cb, .slice none 0 0] 27)).cell? ⟨w3.heap.size, 2, none⟩ = some (.int .i64 0) := by rw [Lib.cell_of_heap HC.out]; rfl
  have k3 : (w3.alloc (.cells #[.int .i64 1, .slice pv 0 cv, .int .i64 0, .int .i64 1, .slice pi 1 ci, .slice pn 1 cn, .slice pb 1 cb, .slice none 0 0] 27)).cell? ⟨w3.heap.size, 3, none⟩ = some (.int .i64 1) := by rw [Lib.cell_of_heap HC.out]; rfl
  have k4 : (w3.alloc (.cells #[.int .i64 1, .slice pv 0 cv, .int .i64 0, .int .i64 1, .slice pi 1 ci, .slice pn 1 cn, .slice pb 1 cb, .slice none 0 0] 27)).cell? ⟨w3.heap.size, 4, none⟩ = some (.slice pi 1 ci) := by rw [Lib.cell_of_heap HC.out]; rfl
  have k5 : (w3.alloc (.cells #[.int .i64 1, .slice pv 0 cv, .int .i64 0, .int .i64 1, .slice pi 1 ci, .slice pn 1 cn, .slice pb 1 cb, .slice none 0 0] 27)).cell? ⟨w3.heap.size, 5, none⟩ = some (.slice pn 1 cn) := by rw [Lib.cell_of_heap HC.out]; rfl
  have k6 : (w3.alloc (.cells #[.int .i64 1, .slice pv 0 cv, .int .i64 0, .int .i64 1, .slice pi 1 ci, .slice pn 1 cn, .slice pb 1 cb, .slice none 0 0] 27)).cell? ⟨w3.heap.size, 6, none⟩ = some (.slice pb 1 cb) := by rw [Lib.cell_of_heap HC.out]; rfl
  have k7 : (w3.alloc (.cells #[.int .i64 1, .slice pv 0 cv, .int .i64 0, .int .i64 1, .slice pi 1 ci, .slice pn 1 cn, .slice pb 1 cb, .slice none 0 0] 27)).cell? ⟨w3.heap.size, 7, none⟩ = some (.slice none 0 0) := by rw [Lib.cell_of_heap HC.out]; rfl
  have HB4 := hide (bthen (bthen HB1.out hb3) hb4)
  have HM4 := hide ((hb4.block _ (by have := (Array.getElem?_eq_some_iff.1 HM.out).1; have := hb3.size; omega)).trans ((hb3.block _ (Array.getElem?_eq_some_iff.1 HM.out).1).trans HM.out))
  clear HBL HM HB1 h1 h2 h3 hb3 hb4 HC
  go_wp2_with fail
  generalize w3.alloc (.cells #[.int .i64 1, .slice pv 0 cv, .int .i64 0, .int .i64 1, .slice pi 1 ci, .slice pn 1 cn, .slice pb 1 cb, .slice none 0 0] 27) = w4 at *
  generalize w3.heap.size = U at *
  refine (app36_two pv cv pi ci pn cn pb cb w4 HCI.out).mono ?_
  rintro e w5 ⟨rfl, hb5⟩
  have HB5 := hide (bthen HB4.out hb5)
  have hm5 := (hb5.block _ (Array.getElem?_eq_some_iff.1 HM4.out).1).trans HM4.out
  have m0 : w5.cell? ⟨w.heap.size, 0, none⟩ = some (.slice (some ⟨B0, 0, none⟩) 3 3) := by rw [Lib.cell_of_heap hm5]; rfl
  have m1 : w5.cell? ⟨w.heap.size, 1, none⟩ = some (.slice (some ⟨B1, 0, none⟩) 1 1) := by rw [Lib.cell_of_heap hm5]; rfl
  have m2 : w5.cell? ⟨w.heap.size, 2, none⟩ = some (.slice (some ⟨B2, 0, none⟩) 1 1) := by rw [Lib.cell_of_heap hm5]; rfl
  have m3 : w5.cell? ⟨w.heap.size, 3, none⟩ = some (.slice (some ⟨B3, 0, none⟩) 1 1) := by rw [Lib.cell_of_heap hm5]; rfl
  have m4 : w5.cell? ⟨w.heap.size, 4, none⟩ = some (.slice none 0 0) := by rw [Lib.cell_of_heap hm5]; rfl
  have HF := hide (find_tg B0 B1 B2 B3 w5 (HTG.out.later HB5.out))
  clear hb5 hm5 k0 k1 k2 k3 k4 k5 k6 k7
  go_wp2_with fail
  refine HF.out.mono ?_
  rintro e w6 ⟨⟨p0, c0, p1, c1, rfl⟩, hb6⟩
  have HB6 := hide (bal (bthen HB5.out hb6) (.cells #[.slice p0 1 c0, .slice p1 2 c1] 79))
  clear hb6 HF m0 m1 m2 m3 m4
  go_wp2
  go_ret2
  exact ⟨rfl, HB6.out⟩
theorem tg_set {w : World} {B0 B1 B2 B3 : Nat} (h : Ev.TgAt w B0 B1 B2 B3 2) (hn : B0 ≠ B2 ∧ B1 ≠ B2 ∧ B3 ≠ B2) (hc : w.cell? ⟨B2, 1, none⟩ = some (.int .i64 2)) : Ev.TgAt (w.setCell ⟨B2, 1, none⟩ (.int .i64 0)) B0 B1 B2 B3 0 := by
  have hk : ∀ {b i : Nat} {v : Value}, b ≠ B2 → w.cell? ⟨b, i, none⟩ = some v → (w.setCell ⟨B2, 1, none⟩ (.int .i64 0)).cell? ⟨b, i, none⟩ = some v := fun hb hv => by
    rw [World.cell?_setCell_other w _ _ _ (fun e => hb (by cases e; rfl))]; exact hv
  obtain ⟨n0, n1, n3⟩ := hn
  refine ⟨fun h0 => ?_, fun h0 => ?_, fun h0 => ?_, fun h0 => ?_⟩
  · obtain ⟨b, o, e, hh⟩ := h.n h0
    cases e
    exact ⟨_, _, rfl, fun i hi => by obtain ⟨c0, c1, c2, c3, c4, c5⟩ := hh i hi; exact ⟨hk n0 c0, hk n0 c1, hk n0 c2, hk n0 c3, hk n0 c4, hk n0 c5⟩⟩
  · obtain ⟨b, o, e, hh⟩ := h.i h0
    cases e
    exact ⟨_, _, rfl, fun i hi => ⟨hk n1 (hh i hi).1, hk n1 (hh i hi).2⟩⟩
  · obtain ⟨b, o, e, hh⟩ := h.x (by decide)
    cases e
    refine ⟨_, _, rfl, fun i hi => ?_⟩
    have hi0 : i = 0 := by simpa using hi
    subst hi0
    have h1 := (hh 0 (by decide)).1
    refine ⟨?_, World.cell?_setCell_same w _ _ hc⟩
    rw [World.cell?_setCell_other w _ _ _ (by simp)]
    exact h1
  · obtain ⟨b, o, e, hh⟩ := h.b h0
    cases e
    exact ⟨_, _, rfl, fun i hi => hk n3 (hh i hi)⟩
set_option maxHeartbeats 8000000 in
theorem proveBegun_any (w : World) : Calls Tryz.prog 8 #[] w fun e w' => e = .returned (.bool true) ∧ Below w.heap.size w w' := by
  have HTA := hide (fun w => Ev.toggle_any w)
  go_enter Tryz.func8, Tryz.ntmps8
  go_wp2_with fail
  refine (HTA.out w).mono ?_
  rintro e w1 ⟨B0, B1, B2, B3, rfl, h0, h1, h2, h3, hb1, hge, hne, hc, hf⟩
  have hlt : B2 < w1.heap.size := World.block_lt_of_cell? _ _ hc
  have hbA : Below w1.heap.size w1 (w1.alloc (.cells (Ev.Mv.cells (Ev.tgM B0 B1 B2 B3) 3) 51)) := bal (Below.refl _ _) _
  have hcA := cell_later hbA hc
  have hfA := (hbA.frozen (p := ⟨B2, 1, none⟩) hlt).trans hf
  have hbS : Below w1.heap.size (w1.setCell ⟨B2, 1, none⟩ (.int .i64 0)) ((w1.setCell ⟨B2, 1, none⟩ (.int .i64 0)).alloc (.cells (Ev.Mv.cells (Ev.tgM B0 B1 B2 B3) 3) 51)) := by
    have := bal (Below.refl _ (w1.setCell ⟨B2, 1, none⟩ (.int .i64 0))) (.cells (Ev.Mv.cells (Ev.tgM B0 B1 B2 B3) 3) 51)
    simpa using this
  have HTS := hide (Ev.TgAt.later (tg_set ⟨h0, h1, h2, h3⟩ hne hc) (by simpa using hbS))
  have HBS := hide ((hb1.setCell (p := ⟨B2, 1, none⟩) hge (.int .i64 0)).trans (hbS.mono hb1.size))
  have hg : ((w1.setCell ⟨B2, 1, none⟩ (.int .i64 0)).alloc (.cells (Ev.Mv.cells (Ev.tgM B0 B1 B2 B3) 3) 51)).heap[w1.heap.size]? = some (.cells (Ev.Mv.cells (Ev.tgM B0 B1 B2 B3) 3) 51) := alloc_at (by simp)
  have m0 : ((w1.setCell ⟨B2, 1, none⟩ (.int .i64 0)).alloc (.cells (Ev.Mv.cells (Ev.tgM B0 B1 B2 B3) 3) 51)).cell? ⟨w1.heap.size, 0, none⟩ = some (.slice (some ⟨B0, 0, none⟩) 3 3) := by rw [Lib.cell_of_heap hg]; rfl
  have m1 : ((w1.setCell ⟨B2, 1, none⟩ (.int .i64 0)).alloc (.cells (Ev.Mv.cells (Ev.tgM B0 B1 B2 B3) 3) 51)).cell? ⟨w1.heap.size, 1, none⟩ = some (.slice (some ⟨B1, 0, none⟩) 1 1) := by rw [Lib.cell_of_heap hg]; rfl
  have m2 : ((w1.setCell ⟨B2, 1, none⟩ (.int .i64 0)).alloc (.cells (Ev.Mv.cells (Ev.tgM B0 B1 B2 B3) 3) 51)).cell? ⟨w1.heap.size, 2, none⟩ = some (.slice (some ⟨B2, 0, none⟩) 1 1) := by rw [Lib.cell_of_heap hg]; rfl
  have m3 : ((w1.setCell ⟨B2, 1, none⟩ (.int .i64 0)).alloc (.cells (Ev.Mv.cells (Ev.tgM B0 B1 B2 B3) 3) 51)).cell? ⟨w1.heap.size, 3, none⟩ = some (.slice (some ⟨B3, 0, none⟩) 1 1) := by rw [Lib.cell_of_heap hg]; rfl
  have m4 : ((w1.setCell ⟨B2, 1, none⟩ (.int .i64 0)).alloc (.cells (Ev.Mv.cells (Ev.tgM B0 B1 B2 B3) 3) 51)).cell? ⟨w1.heap.size, 4, none⟩ = some (.slice none 0 0) := by rw [Lib.cell_of_heap hg]; rfl
  clear h0 h1 h2 h3 hb1 hge hne hc hf hbA hbS hg
  go_upto_region 3 with fail
  generalize (w1.setCell ⟨B2, 1, none⟩ (.int .i64 0)).alloc (.cells (Ev.Mv.cells (Ev.tgM B0 B1 B2 B3) 3) 51) = w2 at *
  have HP := hide (prove_st B0 B1 B2 B3 w2 HTS.out)
  clear hcA hfA hlt HTS
  go_wp2_with fail
  refine HP.out.mono ?_
  rintro e w3 ⟨rfl, hb3⟩
  have HB3 := hide (bthen HBS.out hb3)
  clear hb3 HP HBS m0 m1 m2 m3 m4
  go_wp2_with fail
  refine (HTA.out w3).mono ?_
  rintro e w4 ⟨C0, C1, C2, C3, rfl, h0, h1, h2, h3, hb4, _⟩
  have HP := hide (prove_tg C0 C1 C2 C3 w4 ⟨h0, h1, h2, h3⟩)
  have HB4 := hide (bthen HB3.out hb4)
  clear h0 h1 h2 h3 hb4 HB3 HTA
  go_wp2_with fail
  refine HP.out.mono ?_
  rintro e w5 ⟨rfl, hb5⟩
  have HB5 := hide (bthen HB4.out hb5)
  clear hb5 HP HB4
  go_wp2
  go_ret
  exact ⟨rfl, HB5.out⟩
end Go.Proofs.YtmambfdimeeijaaGreatDoor.Sr
