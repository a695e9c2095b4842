/- trace.walk at the model that turns round. -/
import Derived.Test.YtfobcnhibhbbaaaGreatDoorEjM
import Derived.Test.YtfobcnhibhbbaaaGreatDoorHtM
import Derived.Deep.RegionHeld3
namespace Go.Proofs.YtfobcnhibhbbaaaGreatDoor
open Go.RowKit
set_option maxRecDepth 100000

abbrev mtg (B0 B1 B2 B3 : Nat) : Value := .agg #[.slice (some ⟨B0, 0, none⟩) 3 3, .slice (some ⟨B1, 0, none⟩) 1 1, .slice (some ⟨B2, 0, none⟩) 1 1, .slice (some ⟨B3, 0, none⟩) 1 1, .slice none 0 0]
structure TgAt (w : World) (B0 B1 B2 B3 : Nat) : Prop where
  n : Ev.NodesAt w (some ⟨B0, 0, none⟩) Ev.tgN
  i : Ev.PairsAt w (some ⟨B1, 0, none⟩) [(1, 0)]
  x : Ev.PairsAt w (some ⟨B2, 0, none⟩) [(1, 2)]
  b : Ev.IntsAt w (some ⟨B3, 0, none⟩) [1]
theorem TgAt.later {w w' : World} {B0 B1 B2 B3 : Nat} (h : TgAt w B0 B1 B2 B3) (hb : Below w.heap.size w w') : TgAt w' B0 B1 B2 B3 := ⟨h.n.later hb, h.i.later hb, h.x.later hb, h.b.later hb⟩
theorem toggle_tg (w : World) : Calls Tryz.prog 10 #[] w fun e w' => ∃ B0 B1 B2 B3, e = .returned (mtg B0 B1 B2 B3) ∧ TgAt w' B0 B1 B2 B3 ∧ Below w.heap.size w w' :=
  (Ev.toggle_any w).mono fun _ _ ⟨B0, B1, B2, B3, h1, h2, h3, h4, h5, h6⟩ => ⟨B0, B1, B2, B3, h1, ⟨h2, h3, h4, h5⟩, h6⟩
theorem tg_begin : Ev.beginE Ev.tgN [(1, 0)] [(1, 2)] [1] [] [0] = 0 := by decide
theorem tg_begun : Ev.beginI Ev.tgN [(1, 0)] 0 [0] = [0] := by decide
theorem begin_tg {w : World} {B0 B1 B2 B3 : Nat} (h : TgAt w B0 B1 B2 B3) (v : Value) (hS : Ev.SL w v [0]) :
    Calls Tryz.prog 19 #[mtg B0 B1 B2 B3, v] w fun e w' => ∃ p cap, e = .returned (.tuple #[.slice p 1 cap, .int .i64 0]) ∧ Ev.SL w' (.slice p 1 cap) [0] ∧ Below w.heap.size w w' := by
  have H := Ev.begin_any (some ⟨B0, 0, none⟩) (some ⟨B1, 0, none⟩) (some ⟨B2, 0, none⟩) (some ⟨B3, 0, none⟩) none 3 1 1 1 0 Ev.tgN [(1, 0)] [(1, 2)] [1] [] (by simp [Ev.tgN]) (by simp) (by simp) (by simp [maxLen]) (by simp [maxLen]) [0] (by simp [maxLen]) v w h.n h.i h.x h.b (fun h => by simp at h) hS
  rw [tg_begin, tg_begun] at H
  refine H.mono ?_
  rintro e w' ⟨p, cap, l, rfl, rfl, h1, h2⟩
  exact ⟨p, cap, rfl, ⟨p, cap, rfl, h1⟩, h2⟩
theorem step_tg {w : World} {B0 B1 B2 B3 : Nat} (h : TgAt w B0 B1 B2 B3) (v : Value) (hS : Ev.SL w v [0]) :
    Calls Tryz.prog 33 #[mtg B0 B1 B2 B3, v, .slice none 0 0] w fun e w' => ∃ p cap, e = .returned (.tuple #[.slice p 1 cap, .int .i64 0]) ∧ Ev.SL w' (.slice p 1 cap) [1] ∧ Below w.heap.size w w' := by
  have H := Ev.step_any (some ⟨B0, 0, none⟩) (some ⟨B1, 0, none⟩) (some ⟨B2, 0, none⟩) (some ⟨B3, 0, none⟩) none 3 1 1 1 0 Ev.tgN [(1, 0)] [(1, 2)] [1] [] (by simp [Ev.tgN, maxLen]) (by simp) (by simp) (by simp [maxLen]) (by simp [maxLen]) [0] [] (by simp [maxLen]) (by simp [maxLen]) v (.slice none 0 0) w h.n h.i h.x h.b (fun h => by simp at h) hS Ev.nil_SL
  rw [Ev.tg_ready0, Ev.tg_next] at H
  refine H.mono ?_
  rintro e w' ⟨p, cap, l, rfl, rfl, h1, h2⟩
  exact ⟨p, cap, rfl, ⟨p, cap, rfl, h1⟩, h2⟩
theorem tg_holds0 : Ev.holdsI [] 0 (Ev.vals Ev.tgN [0] [] Ev.tgN.length) = true := by decide
theorem tg_bad0 : Ev.badI [1] 0 (Ev.vals Ev.tgN [0] [] Ev.tgN.length) = false := by decide
theorem look_tg0 {w : World} {B0 B1 B2 B3 : Nat} (h : TgAt w B0 B1 B2 B3) (v : Value) (hS : Ev.SL w v [0]) :
    Calls Tryz.prog 34 #[mtg B0 B1 B2 B3, v, .slice none 0 0] w fun e w' => e = .returned (.tuple #[.bool true, .bool false, .int .i64 0]) ∧ Below w.heap.size w w' := by
  have H := Ev.look_any (some ⟨B0, 0, none⟩) (some ⟨B1, 0, none⟩) (some ⟨B2, 0, none⟩) (some ⟨B3, 0, none⟩) none 3 1 1 1 0 Ev.tgN [(1, 0)] [(1, 2)] [1] [] (by simp [Ev.tgN, maxLen]) (by simp) (by simp) (by simp [maxLen]) (by simp [maxLen]) [0] [] (by simp [maxLen]) (by simp [maxLen]) v (.slice none 0 0) w h.n h.i h.x h.b (fun h => by simp at h) hS Ev.nil_SL
  rw [Ev.tg_ready0, tg_holds0, tg_bad0] at H
  exact H
theorem look_tg1 {w : World} {B0 B1 B2 B3 : Nat} (h : TgAt w B0 B1 B2 B3) (v : Value) (hS : Ev.SL w v [1]) :
    Calls Tryz.prog 34 #[mtg B0 B1 B2 B3, v, .slice none 0 0] w fun e w' => e = .returned (.tuple #[.bool true, .bool true, .int .i64 0]) ∧ Below w.heap.size w w' := by
  have H := Ev.look_any (some ⟨B0, 0, none⟩) (some ⟨B1, 0, none⟩) (some ⟨B2, 0, none⟩) (some ⟨B3, 0, none⟩) none 3 1 1 1 0 Ev.tgN [(1, 0)] [(1, 2)] [1] [] (by simp [Ev.tgN, maxLen]) (by simp) (by simp) (by simp [maxLen]) (by simp [maxLen]) [1] [] (by simp [maxLen]) (by simp [maxLen]) v (.slice none 0 0) w h.n h.i h.x h.b (fun h => by simp at h) hS Ev.nil_SL
  rw [Ev.tg_ready1, Ev.tg_holds, Ev.tg_bad] at H
  exact H

/-- Who looks on is called in turn: what is so behind k calls; the numbers that lie in memory stay. -/
structure Looks (fn : FuncId) (w0 w : World) (J : Nat → World → Prop) (args : Value → Bool → Array Value) : Prop where
  st : ∀ k w1 w2, J k w1 → Below w.heap.size w1 w2 → J k w2
  cl : ∀ k wr v, k < 2 → w.heap.size ≤ wr.heap.size → J k wr → Calls Tryz.prog fn (args v (k == 1)) wr fun e w' => e = .returned (.tuple #[]) ∧ J (k + 1) w' ∧ Below w0.heap.size wr w' ∧ (∀ g, w.heap.size ≤ g → w'.heap[g]? = wr.heap[g]?) ∧ ∀ a n, wr.cell? a = some (.int .i64 n) → w'.cell? a = some (.int .i64 n)
theorem SL_kept {w w' : World} {v : Value} {l : List Int} (h : Ev.SL w v l) (hk : ∀ a n, w.cell? a = some (.int .i64 n) → w'.cell? a = some (.int .i64 n)) : Ev.SL w' v l := by
  obtain ⟨p, cap, hv, hI, h1, h2⟩ := h
  refine ⟨p, cap, hv, fun h0 => ?_, h1, h2⟩
  obtain ⟨b, off, hp, hc⟩ := hI h0
  exact ⟨b, off, hp, fun i hi => hk _ _ (hc i hi)⟩
/-- What of a walk's memory is as it was laid. -/
structure Boxes (w wr : World) (B0 B1 B2 B3 : Nat) (sp rp : Option Addr) (sc rc : Nat) : Prop where
  m : wr.heap[w.heap.size]? = some (.cells #[.slice (some ⟨B0, 0, none⟩) 3 3, .slice (some ⟨B1, 0, none⟩) 1 1, .slice (some ⟨B2, 0, none⟩) 1 1, .slice (some ⟨B3, 0, none⟩) 1 1, .slice none 0 0] 26 (0, 0))
  t : wr.heap[w.heap.size + 1]? = some (.cells #[.slice sp 1 sc, .slice rp 2 rc] 29 (0, 0))
theorem Boxes.size {w wr : World} {B0 B1 B2 B3 : Nat} {sp rp : Option Addr} {sc rc : Nat} (h : Boxes w wr B0 B1 B2 B3 sp rp sc rc) : w.heap.size + 2 ≤ wr.heap.size := by
  have := (Array.getElem?_eq_some_iff.1 h.t).1
  omega
theorem Boxes.call {w wr w' : World} {B0 B1 B2 B3 : Nat} {sp rp : Option Addr} {sc rc : Nat} (h : Boxes w wr B0 B1 B2 B3 sp rp sc rc) (hb : Below wr.heap.size wr w') : Boxes w w' B0 B1 B2 B3 sp rp sc rc := by
  have := h.size
  exact ⟨(hb.block _ (by omega)).trans h.m, (hb.block _ (by omega)).trans h.t⟩
theorem Boxes.look {w wr w' : World} {B0 B1 B2 B3 : Nat} {sp rp : Option Addr} {sc rc : Nat} (h : Boxes w wr B0 B1 B2 B3 sp rp sc rc) (hk : ∀ g, w.heap.size ≤ g → w'.heap[g]? = wr.heap[g]?) : Boxes w w' B0 B1 B2 B3 sp rp sc rc :=
  ⟨(hk _ (by omega)).trans h.m, (hk _ (by omega)).trans h.t⟩

theorem enter33 (args : Array Value) (w : World) : (callFunc 17 args).run Tryz.prog w = .ok (.enter 17 args) w := by kernel_rfl

set_option maxHeartbeats 8000000 in
theorem walk33_tg (c1 c2 : Value) (B0 B1 B2 B3 : Nat) (sp rp : Option Addr) (sc rc : Nat) (J : Nat → World → Prop) (w0 w : World) (h0 : TgAt w0 B0 B1 B2 B3) (hS0 : Ev.SL w0 (.slice sp 1 sc) [0]) (hR0 : RowsAt w0 rp [nilRow, nilRow]) (hb0 : Below w0.heap.size w0 w) (hJ : J 0 w) (hL : Looks 17 w0 w J (fun v b => #[v, .bool true, .bool b, c1, c2])) :
    Calls Tryz.prog 16 #[mtg B0 B1 B2 B3, .agg #[.slice sp 1 sc, .slice rp 2 rc], .func (.func 17) #[] #[c1, c2]] w fun e w' => e = .returned (.int .i64 0) ∧ J 2 w' ∧ Below w0.heap.size w0 w' := by
  obtain ⟨rb, ro, rfl, hrc⟩ := hR0 (by simp)
  have hr0 : w0.cell? ⟨rb, ro, none⟩ = some (.slice none 0 0) := hrc 0 (by simp)
  have hr1 : w0.cell? ⟨rb, ro + 1, none⟩ = some (.slice none 0 0) := hrc 1 (by simp)
  clear hrc hR0
  have hbX : Below w.heap.size w ((w.alloc (.cells #[.slice (some ⟨B0, 0, none⟩) 3 3, .slice (some ⟨B1, 0, none⟩) 1 1, .slice (some ⟨B2, 0, none⟩) 1 1, .slice (some ⟨B3, 0, none⟩) 1 1, .slice none 0 0] 26)).alloc (.cells #[.slice sp 1 sc, .slice (some ⟨rb, ro, none⟩) 2 rc] 29)) := bal (bal (Below.refl _ _) _) _
  have hBX : Boxes w ((w.alloc (.cells #[.slice (some ⟨B0, 0, none⟩) 3 3, .slice (some ⟨B1, 0, none⟩) 1 1, .slice (some ⟨B2, 0, none⟩) 1 1, .slice (some ⟨B3, 0, none⟩) 1 1, .slice none 0 0] 26)).alloc (.cells #[.slice sp 1 sc, .slice (some ⟨rb, ro, none⟩) 2 rc] 29)) B0 B1 B2 B3 sp (some ⟨rb, ro, none⟩) sc rc := by
    refine ⟨(Below.heap_alloc _ _ _ (by simp)).trans (heap_alloc_new w _), ?_⟩
    have := heap_alloc_new (w.alloc (.cells #[.slice (some ⟨B0, 0, none⟩) 3 3, .slice (some ⟨B1, 0, none⟩) 1 1, .slice (some ⟨B2, 0, none⟩) 1 1, .slice (some ⟨B3, 0, none⟩) 1 1, .slice none 0 0] 26)) (.cells #[.slice sp 1 sc, .slice (some ⟨rb, ro, none⟩) 2 rc] 29)
    rw [World.size_alloc] at this
    exact this
  have HBX := hide hBX
  have HL := hide hL
  have HJ0 := hide (hL.st 0 w _ hJ hbX)
  have hb1 : Below w0.heap.size w0 ((w.alloc (.cells #[.slice (some ⟨B0, 0, none⟩) 3 3, .slice (some ⟨B1, 0, none⟩) 1 1, .slice (some ⟨B2, 0, none⟩) 1 1, .slice (some ⟨B3, 0, none⟩) 1 1, .slice none 0 0] 26)).alloc (.cells #[.slice sp 1 sc, .slice (some ⟨rb, ro, none⟩) 2 rc] 29)) := belowAl hb0 hbX
  have HB1 := hide hb1
  have HTG := hide (fun (w' : World) (hb : Below w0.heap.size w0 w') => h0.later hb)
  have HR0 := hide (fun (w' : World) (hb : Below w0.heap.size w0 w') => And.intro (cell_later hb hr0) (cell_later hb hr1))
  have HBE := hide (begin_tg (h0.later hb1) (.slice sp 1 sc) (hS0.later hb1))
  have HEN := hide enter33
  clear hBX hL hJ hbX hb1 h0 hS0 hr0 hr1
  go_enter Tryz.func16, Tryz.ntmps16
  go_wp2_with fail
  refine HBE.out.mono ?_
  rintro e w1 ⟨p1, k1, rfl, hS1, hb1⟩
  have HS1 := hide hS1
  have hX1 := HBX.out.call hb1
  have c0 : w1.cell? ⟨w.heap.size + 1, 1, none⟩ = some (.slice (some ⟨rb, ro, none⟩) 2 rc) := by rw [Lib.cell_of_heap hX1.t]; rfl
  have HX1 := hide hX1
  have HJ1 := hide (HL.out.st 0 _ w1 HJ0.out (hb1.mono (by simp; omega)))
  have HB2 := hide (belowAl HB1.out hb1)
  clear hS1 hb1 hX1 HBX HBE HJ0 HB1
  go_wp2
  clear c0
  go_loopw [7, 8, 37] (fun st e i wr => ∃ k : Nat, k ≤ 2 ∧ i = .int .i64 k ∧ e = .int .i64 0 ∧ (∃ ps cs, st = .slice ps 1 cs ∧ Hid (Ev.SL wr (.slice ps 1 cs) [if k ≤ 1 then 0 else 1])) ∧ Hid (Boxes w wr B0 B1 B2 B3 sp (some ⟨rb, ro, none⟩) sc rc) ∧ Hid (J k wr) ∧ Hid (Below w0.heap.size w0 wr)) (fun _ _ i _ => 2 - (intOf i).toNat)
  case atStart => exact ⟨0, by omega, rfl, rfl, ⟨p1, k1, rfl, HS1⟩, HX1, HJ1, HB2⟩
  case round =>
    clear HS1 HX1 HJ1 HB2
    obtain ⟨k, hk, rfl, rfl, ⟨ps, cs, rfl, HS⟩, HX, HJ, HBW⟩ := hrel
    obtain ⟨hr0, hr1⟩ := HR0.out wr HBW.out
    have hsz := HX.out.size
    have m0 : wr.cell? ⟨w.heap.size, 0, none⟩ = some (.slice (some ⟨B0, 0, none⟩) 3 3) := by rw [Lib.cell_of_heap HX.out.m]; rfl
    have m1 : wr.cell? ⟨w.heap.size, 1, none⟩ = some (.slice (some ⟨B1, 0, none⟩) 1 1) := by rw [Lib.cell_of_heap HX.out.m]; rfl
    have m2 : wr.cell? ⟨w.heap.size, 2, none⟩ = some (.slice (some ⟨B2, 0, none⟩) 1 1) := by rw [Lib.cell_of_heap HX.out.m]; rfl
    have m3 : wr.cell? ⟨w.heap.size, 3, none⟩ = some (.slice (some ⟨B3, 0, none⟩) 1 1) := by rw [Lib.cell_of_heap HX.out.m]; rfl
    have m4 : wr.cell? ⟨w.heap.size, 4, none⟩ = some (.slice none 0 0) := by rw [Lib.cell_of_heap HX.out.m]; rfl
    have t1 : wr.cell? ⟨w.heap.size + 1, 1, none⟩ = some (.slice (some ⟨rb, ro, none⟩) 2 rc) := by rw [Lib.cell_of_heap HX.out.t]; rfl
    obtain rfl | rfl | rfl : k = 0 ∨ k = 1 ∨ k = 2 := by omega
    · have HLK := hide (look_tg0 (HTG.out wr HBW.out) _ HS.out)
      go_wp2_with fail
      refine HLK.out.mono ?_
      rintro e w3 ⟨rfl, hb3⟩
      have HS3 := hide (HS.out.later hb3)
      have HX3 := hide (HX.out.call hb3)
      have HJ3 := hide (HL.out.st 0 wr w3 HJ.out (hb3.mono (by omega)))
      have HB3 := hide (belowAl HBW.out hb3)
      have hsz3 := hb3.size
      have HCL := hide (HL.out.cl 0 w3 (.slice ps 1 cs) (by omega) (by omega) HJ3.out)
      clear hb3 HLK HX HJ HBW HS m0 m1 m2 m3 m4 t1 hr0 hr1
      have hen := HEN.out
      go_wp2_with fail
      refine HCL.out.mono ?_
      rintro e w4 ⟨rfl, hj4, hb4, hk4, hki4⟩
      have HS4 := hide (SL_kept HS3.out hki4)
      have HX4 := hide (HX3.out.look hk4)
      have HJ4 := hide hj4
      have HB4 := hide (HB3.out.trans hb4)
      clear hj4 hb4 hk4 hki4 HCL HS3 HX3 HJ3 HB3 hen
      go_wp2
      go_roundw
      case rel => exact ⟨1, by omega, rfl, rfl, ⟨ps, cs, rfl, HS4⟩, HX4, HJ4, HB4⟩
      case measure => simp [intOf]
    · have hbd : Below wr.heap.size wr wr.drew := (Below.refl _ wr).drew
      have HST := hide (step_tg (HTG.out wr.drew (belowAl HBW.out hbd)) _ (HS.out.later hbd))
      obtain ⟨j, hj0⟩ : ∃ j : Nat, j = 0 := ⟨0, rfl⟩
      have hrj : wr.cell? ⟨rb, ro + j, none⟩ = some (.slice none 0 0) := by rw [hj0]; exact hr0
      have hi1 : ((1 : Nat) : Int) = (j : Int) + 1 := by rw [hj0]; rfl
      rw [hi1]
      have hr1' : wr.cell? ⟨rb, ro + (j + 1), none⟩ = some (.slice none 0 0) := by rw [hj0]; exact hr1
      have ha : (0 : Int) ≤ (j : Int) := by omega
      have hb : (j : Int) < 2 := by omega
      have hc : (j : Int) + 1 < 2 := by omega
      have hd : (0 : Int) < (j : Int) + 1 := by omega
      have he : (0 : Int) ≤ (j : Int) + 1 := by omega
      have hn : ((j : Int) + 1).toNat = j + 1 := by omega
      have hf : wrap64 ((j : Int) + 1 - 1) = (j : Int) := by unfold wrap64; omega
      have hf2 : wrap64 (j : Int) = (j : Int) := by unfold wrap64; omega
      have hf4 : IntKind.i64.wrap (j : Int) = (j : Int) := Ev.wrap_small j (by omega)
      have hf3 : IntKind.i64.wrap ((j : Int) + 1 - 1) = (j : Int) := by rw [Int.add_sub_cancel]; exact hf4
      have HJZ := hide hj0
      clear hj0 hi1 hr0 hr1
      go_wp2
      go_region_held3 (fun w' => w'.cell? ⟨w.heap.size, 0, none⟩ = some (.slice (some ⟨B0, 0, none⟩) 3 3) ∧ w'.cell? ⟨w.heap.size, 1, none⟩ = some (.slice (some ⟨B1, 0, none⟩) 1 1) ∧ w'.cell? ⟨w.heap.size, 2, none⟩ = some (.slice (some ⟨B2, 0, none⟩) 1 1) ∧ w'.cell? ⟨w.heap.size, 3, none⟩ = some (.slice (some ⟨B3, 0, none⟩) 1 1) ∧ w'.cell? ⟨w.heap.size, 4, none⟩ = some (.slice none 0 0) ∧ w'.cell? ⟨w.heap.size + 1, 1, none⟩ = some (.slice (some ⟨rb, ro, none⟩) 2 rc) ∧ w'.cell? ⟨rb, ro + j, none⟩ = some (.slice none 0 0))
        (first | exact ⟨m0, m1, m2, m3, m4, t1, hrj⟩ | exact ⟨cell_later hb2 m0, cell_later hb2 m1, cell_later hb2 m2, cell_later hb2 m3, cell_later hb2 m4, cell_later hb2 t1, cell_later hb2 hrj⟩ | go_keep)
        ((go_at_call 33; refine HST.out.mono ?_; rintro e w2 ⟨p2, k2, rfl, hS2, hb2⟩))
      rename_i hHeld
      clear hHeld
      have hb2' := belowAl hbd hb2
      have HS2 := hide hS2
      have HX2 := hide (HX.out.call hb2')
      have HJ2 := hide (HL.out.st 1 wr w2 HJ.out (hb2'.mono (by omega)))
      have HB2 := hide (belowAl HBW.out hb2')
      have hsz2 := hb2'.size
      have n0 := cell_later hb2' m0
      have n1 := cell_later hb2' m1
      have n2 := cell_later hb2' m2
      have n3 := cell_later hb2' m3
      have n4 := cell_later hb2' m4
      have HLK := hide (look_tg1 (HTG.out w2 HB2.out) _ HS2.out)
      clear hS2 hb2 hb2' HX HJ HBW HS m0 m1 m2 m3 m4 t1 hrj hr1' hbd HST
      go_wp2_with fail
      refine HLK.out.mono ?_
      rintro e w3 ⟨rfl, hb3⟩
      have HS3 := hide (HS2.out.later hb3)
      have HX3 := hide (HX2.out.call hb3)
      have HJ3 := hide (HL.out.st 1 w2 w3 HJ2.out (hb3.mono (by omega)))
      have HB3 := hide (belowAl HB2.out hb3)
      have hsz3 := hb3.size
      have HCL := hide (HL.out.cl 1 w3 (.slice p2 1 k2) (by omega) (by omega) HJ3.out)
      clear hb3 HLK HX2 HJ2 HB2 HS2 n0 n1 n2 n3 n4
      have hen := HEN.out
      go_wp2_with fail
      refine HCL.out.mono ?_
      rintro e w4 ⟨rfl, hj4, hb4, hk4, hki4⟩
      have HS4 := hide (SL_kept HS3.out hki4)
      have HX4 := hide (HX3.out.look hk4)
      have HJ4 := hide hj4
      have HB4 := hide (HB3.out.trans hb4)
      clear hj4 hb4 hk4 hki4 HCL HS3 HX3 HJ3 HB3 hen
      go_wp2
      go_roundw
      case rel => exact ⟨2, by omega, by rw [HJZ.out]; rfl, rfl, ⟨p2, k2, rfl, HS4⟩, HX4, HJ4, HB4⟩
      case measure => simp [intOf, HJZ.out]
    · go_wp2
      go_ret
      exact ⟨rfl, HJ.out, HBW.out⟩

theorem enter34 (args : Array Value) (w : World) : (callFunc 25 args).run Tryz.prog w = .ok (.enter 25 args) w := by kernel_rfl

set_option maxHeartbeats 8000000 in
theorem walk34_tg (B0 B1 B2 B3 : Nat) (sp rp : Option Addr) (sc rc : Nat) (J : Nat → World → Prop) (w0 w : World) (h0 : TgAt w0 B0 B1 B2 B3) (hS0 : Ev.SL w0 (.slice sp 1 sc) [0]) (hR0 : RowsAt w0 rp [nilRow, nilRow]) (hb0 : Below w0.heap.size w0 w) (hJ : J 0 w) (hL : Looks 25 w0 w J (fun v b => #[v, .bool true, .bool b])) :
    Calls Tryz.prog 16 #[mtg B0 B1 B2 B3, .agg #[.slice sp 1 sc, .slice rp 2 rc], .func (.func 25) #[] #[]] w fun e w' => e = .returned (.int .i64 0) ∧ J 2 w' ∧ Below w0.heap.size w0 w' := by
  obtain ⟨rb, ro, rfl, hrc⟩ := hR0 (by simp)
  have hr0 : w0.cell? ⟨rb, ro, none⟩ = some (.slice none 0 0) := hrc 0 (by simp)
  have hr1 : w0.cell? ⟨rb, ro + 1, none⟩ = some (.slice none 0 0) := hrc 1 (by simp)
  clear hrc hR0
  have hbX : Below w.heap.size w ((w.alloc (.cells #[.slice (some ⟨B0, 0, none⟩) 3 3, .slice (some ⟨B1, 0, none⟩) 1 1, .slice (some ⟨B2, 0, none⟩) 1 1, .slice (some ⟨B3, 0, none⟩) 1 1, .slice none 0 0] 26)).alloc (.cells #[.slice sp 1 sc, .slice (some ⟨rb, ro, none⟩) 2 rc] 29)) := bal (bal (Below.refl _ _) _) _
  have hBX : Boxes w ((w.alloc (.cells #[.slice (some ⟨B0, 0, none⟩) 3 3, .slice (some ⟨B1, 0, none⟩) 1 1, .slice (some ⟨B2, 0, none⟩) 1 1, .slice (some ⟨B3, 0, none⟩) 1 1, .slice none 0 0] 26)).alloc (.cells #[.slice sp 1 sc, .slice (some ⟨rb, ro, none⟩) 2 rc] 29)) B0 B1 B2 B3 sp (some ⟨rb, ro, none⟩) sc rc := by
    refine ⟨(Below.heap_alloc _ _ _ (by simp)).trans (heap_alloc_new w _), ?_⟩
    have := heap_alloc_new (w.alloc (.cells #[.slice (some ⟨B0, 0, none⟩) 3 3, .slice (some ⟨B1, 0, none⟩) 1 1, .slice (some ⟨B2, 0, none⟩) 1 1, .slice (some ⟨B3, 0, none⟩) 1 1, .slice none 0 0] 26)) (.cells #[.slice sp 1 sc, .slice (some ⟨rb, ro, none⟩) 2 rc] 29)
    rw [World.size_alloc] at this
    exact this
  have HBX := hide hBX
  have HL := hide hL
  have HJ0 := hide (hL.st 0 w _ hJ hbX)
  have hb1 : Below w0.heap.size w0 ((w.alloc (.cells #[.slice (some ⟨B0, 0, none⟩) 3 3, .slice (some ⟨B1, 0, none⟩) 1 1, .slice (some ⟨B2, 0, none⟩) 1 1, .slice (some ⟨B3, 0, none⟩) 1 1, .slice none 0 0] 26)).alloc (.cells #[.slice sp 1 sc, .slice (some ⟨rb, ro, none⟩) 2 rc] 29)) := belowAl hb0 hbX
  have HB1 := hide hb1
  have HTG := hide (fun (w' : World) (hb : Below w0.heap.size w0 w') => h0.later hb)
  have HR0 := hide (fun (w' : World) (hb : Below w0.heap.size w0 w') => And.intro (cell_later hb hr0) (cell_later hb hr1))
  have HBE := hide (begin_tg (h0.later hb1) (.slice sp 1 sc) (hS0.later hb1))
  have HEN := hide enter34
  clear hBX hL hJ hbX hb1 h0 hS0 hr0 hr1
  go_enter Tryz.func16, Tryz.ntmps16
  go_wp2_with fail
  refine HBE.out.mono ?_
  rintro e w1 ⟨p1, k1, rfl, hS1, hb1⟩
  have HS1 := hide hS1
  have hX1 := HBX.out.call hb1
  have c0 : w1.cell? ⟨w.heap.size + 1, 1, none⟩ = some (.slice (some ⟨rb, ro, none⟩) 2 rc) := by rw [Lib.cell_of_heap hX1.t]; rfl
  have HX1 := hide hX1
  have HJ1 := hide (HL.out.st 0 _ w1 HJ0.out (hb1.mono (by simp; omega)))
  have HB2 := hide (belowAl HB1.out hb1)
  clear hS1 hb1 hX1 HBX HBE HJ0 HB1
  go_wp2
  clear c0
  go_loopw [7, 8, 37] (fun st e i wr => ∃ k : Nat, k ≤ 2 ∧ i = .int .i64 k ∧ e = .int .i64 0 ∧ (∃ ps cs, st = .slice ps 1 cs ∧ Hid (Ev.SL wr (.slice ps 1 cs) [if k ≤ 1 then 0 else 1])) ∧ Hid (Boxes w wr B0 B1 B2 B3 sp (some ⟨rb, ro, none⟩) sc rc) ∧ Hid (J k wr) ∧ Hid (Below w0.heap.size w0 wr)) (fun _ _ i _ => 2 - (intOf i).toNat)
  case atStart => exact ⟨0, by omega, rfl, rfl, ⟨p1, k1, rfl, HS1⟩, HX1, HJ1, HB2⟩
  case round =>
    clear HS1 HX1 HJ1 HB2
    obtain ⟨k, hk, rfl, rfl, ⟨ps, cs, rfl, HS⟩, HX, HJ, HBW⟩ := hrel
    obtain ⟨hr0, hr1⟩ := HR0.out wr HBW.out
    have hsz := HX.out.size
    have m0 : wr.cell? ⟨w.heap.size, 0, none⟩ = some (.slice (some ⟨B0, 0, none⟩) 3 3) := by rw [Lib.cell_of_heap HX.out.m]; rfl
    have m1 : wr.cell? ⟨w.heap.size, 1, none⟩ = some (.slice (some ⟨B1, 0, none⟩) 1 1) := by rw [Lib.cell_of_heap HX.out.m]; rfl
    have m2 : wr.cell? ⟨w.heap.size, 2, none⟩ = some (.slice (some ⟨B2, 0, none⟩) 1 1) := by rw [Lib.cell_of_heap HX.out.m]; rfl
    have m3 : wr.cell? ⟨w.heap.size, 3, none⟩ = some (.slice (some ⟨B3, 0, none⟩) 1 1) := by rw [Lib.cell_of_heap HX.out.m]; rfl
    have m4 : wr.cell? ⟨w.heap.size, 4, none⟩ = some (.slice none 0 0) := by rw [Lib.cell_of_heap HX.out.m]; rfl
    have t1 : wr.cell? ⟨w.heap.size + 1, 1, none⟩ = some (.slice (some ⟨rb, ro, none⟩) 2 rc) := by rw [Lib.cell_of_heap HX.out.t]; rfl
    obtain rfl | rfl | rfl : k = 0 ∨ k = 1 ∨ k = 2 := by omega
    · have HLK := hide (look_tg0 (HTG.out wr HBW.out) _ HS.out)
      go_wp2_with fail
      refine HLK.out.mono ?_
      rintro e w3 ⟨rfl, hb3⟩
      have HS3 := hide (HS.out.later hb3)
      have HX3 := hide (HX.out.call hb3)
      have HJ3 := hide (HL.out.st 0 wr w3 HJ.out (hb3.mono (by omega)))
      have HB3 := hide (belowAl HBW.out hb3)
      have hsz3 := hb3.size
      have HCL := hide (HL.out.cl 0 w3 (.slice ps 1 cs) (by omega) (by omega) HJ3.out)
      clear hb3 HLK HX HJ HBW HS m0 m1 m2 m3 m4 t1 hr0 hr1
      have hen := HEN.out
      go_wp2_with fail
      refine HCL.out.mono ?_
      rintro e w4 ⟨rfl, hj4, hb4, hk4, hki4⟩
      have HS4 := hide (SL_kept HS3.out hki4)
      have HX4 := hide (HX3.out.look hk4)
      have HJ4 := hide hj4
      have HB4 := hide (HB3.out.trans hb4)
      clear hj4 hb4 hk4 hki4 HCL HS3 HX3 HJ3 HB3 hen
      go_wp2
      go_roundw
      case rel => exact ⟨1, by omega, rfl, rfl, ⟨ps, cs, rfl, HS4⟩, HX4, HJ4, HB4⟩
      case measure => simp [intOf]
    · have hbd : Below wr.heap.size wr wr.drew := (Below.refl _ wr).drew
      have HST := hide (step_tg (HTG.out wr.drew (belowAl HBW.out hbd)) _ (HS.out.later hbd))
      obtain ⟨j, hj0⟩ : ∃ j : Nat, j = 0 := ⟨0, rfl⟩
      have hrj : wr.cell? ⟨rb, ro + j, none⟩ = some (.slice none 0 0) := by rw [hj0]; exact hr0
      have hi1 : ((1 : Nat) : Int) = (j : Int) + 1 := by rw [hj0]; rfl
      rw [hi1]
      have hr1' : wr.cell? ⟨rb, ro + (j + 1), none⟩ = some (.slice none 0 0) := by rw [hj0]; exact hr1
      have ha : (0 : Int) ≤ (j : Int) := by omega
      have hb : (j : Int) < 2 := by omega
      have hc : (j : Int) + 1 < 2 := by omega
      have hd : (0 : Int) < (j : Int) + 1 := by omega
      have he : (0 : Int) ≤ (j : Int) + 1 := by omega
      have hn : ((j : Int) + 1).toNat = j + 1 := by omega
      have hf : wrap64 ((j : Int) + 1 - 1) = (j : Int) := by unfold wrap64; omega
      have hf2 : wrap64 (j : Int) = (j : Int) := by unfold wrap64; omega
      have hf4 : IntKind.i64.wrap (j : Int) = (j : Int) := Ev.wrap_small j (by omega)
      have hf3 : IntKind.i64.wrap ((j : Int) + 1 - 1) = (j : Int) := by rw [Int.add_sub_cancel]; exact hf4
      have HJZ := hide hj0
      clear hj0 hi1 hr0 hr1
      go_wp2
      go_region_held3 (fun w' => w'.cell? ⟨w.heap.size, 0, none⟩ = some (.slice (some ⟨B0, 0, none⟩) 3 3) ∧ w'.cell? ⟨w.heap.size, 1, none⟩ = some (.slice (some ⟨B1, 0, none⟩) 1 1) ∧ w'.cell? ⟨w.heap.size, 2, none⟩ = some (.slice (some ⟨B2, 0, none⟩) 1 1) ∧ w'.cell? ⟨w.heap.size, 3, none⟩ = some (.slice (some ⟨B3, 0, none⟩) 1 1) ∧ w'.cell? ⟨w.heap.size, 4, none⟩ = some (.slice none 0 0) ∧ w'.cell? ⟨w.heap.size + 1, 1, none⟩ = some (.slice (some ⟨rb, ro, none⟩) 2 rc) ∧ w'.cell? ⟨rb, ro + j, none⟩ = some (.slice none 0 0))
        (first | exact ⟨m0, m1, m2, m3, m4, t1, hrj⟩ | exact ⟨cell_later hb2 m0, cell_later hb2 m1, cell_later hb2 m2, cell_later hb2 m3, cell_later hb2 m4, cell_later hb2 t1, cell_later hb2 hrj⟩ | go_keep)
        ((go_at_call 33; refine HST.out.mono ?_; rintro e w2 ⟨p2, k2, rfl, hS2, hb2⟩))
      rename_i hHeld
      clear hHeld
      have hb2' := belowAl hbd hb2
      have HS2 := hide hS2
      have HX2 := hide (HX.out.call hb2')
      have HJ2 := hide (HL.out.st 1 wr w2 HJ.out (hb2'.mono (by omega)))
      have HB2 := hide (belowAl HBW.out hb2')
      have hsz2 := hb2'.size
      have n0 := cell_later hb2' m0
      have n1 := cell_later hb2' m1
      have n2 := cell_later hb2' m2
      have n3 := cell_later hb2' m3
      have n4 := cell_later hb2' m4
      have HLK := hide (look_tg1 (HTG.out w2 HB2.out) _ HS2.out)
      clear hS2 hb2 hb2' HX HJ HBW HS m0 m1 m2 m3 m4 t1 hrj hr1' hbd HST
      go_wp2_with fail
      refine HLK.out.mono ?_
      rintro e w3 ⟨rfl, hb3⟩
      have HS3 := hide (HS2.out.later hb3)
      have HX3 := hide (HX2.out.call hb3)
      have HJ3 := hide (HL.out.st 1 w2 w3 HJ2.out (hb3.mono (by omega)))
      have HB3 := hide (belowAl HB2.out hb3)
      have hsz3 := hb3.size
      have HCL := hide (HL.out.cl 1 w3 (.slice p2 1 k2) (by omega) (by omega) HJ3.out)
      clear hb3 HLK HX2 HJ2 HB2 HS2 n0 n1 n2 n3 n4
      have hen := HEN.out
      go_wp2_with fail
      refine HCL.out.mono ?_
      rintro e w4 ⟨rfl, hj4, hb4, hk4, hki4⟩
      have HS4 := hide (SL_kept HS3.out hki4)
      have HX4 := hide (HX3.out.look hk4)
      have HJ4 := hide hj4
      have HB4 := hide (HB3.out.trans hb4)
      clear hj4 hb4 hk4 hki4 HCL HS3 HX3 HJ3 HB3 hen
      go_wp2
      go_roundw
      case rel => exact ⟨2, by omega, by rw [HJZ.out]; rfl, rfl, ⟨p2, k2, rfl, HS4⟩, HX4, HJ4, HB4⟩
      case measure => simp [intOf, HJZ.out]
    · go_wp2
      go_ret
      exact ⟨rfl, HJ.out, HBW.out⟩

end Go.Proofs.YtfobcnhibhbbaaaGreatDoor
