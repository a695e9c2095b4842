/- Steps, unrolled: what is made of parts. -/
import Derived.Test.YtmambfdimeeijaaGreatDoorKlM
namespace Go.Proofs.YtmambfdimeeijaaGreatDoor
open Go.RowKit Go.Maps Go.WideMaps
set_option maxRecDepth 100000
def prt0 : Prt := ⟨0, 0, 0, #[], [], [], none⟩
def sumV (ps : List Prt) : Nat → Int
 | 0 => 0
 | k + 1 => sumV ps k + (ps.getD k prt0).vs
def sumC (ps : List Prt) : Nat → Int
 | 0 => 0
 | k + 1 => sumC ps k + (ps.getD k prt0).cs
def madeL (ps : List Prt) (k : Nat) : List (List Int) := (ps.take k).flatMap Prt.L
theorem madeL_succ (ps : List Prt) (k : Nat) (h : k < ps.length) : madeL ps (k + 1) = madeL ps k ++ ps[k].L := by
 unfold madeL
 rw [List.take_succ_eq_append_getElem h, List.flatMap_append]
 simp
theorem madeL_mono (ps : List Prt) {k n : Nat} (h : k ≤ n) (hn : n ≤ ps.length) : (madeL ps k).length ≤ (madeL ps n).length := by
 induction n with
 | zero => obtain rfl : k = 0 := by omega
           exact Nat.le_refl _
 | succ n ih =>
   by_cases e : k = n + 1
   · subst e; exact Nat.le_refl _
   · have := ih (by omega) (by omega)
     rw [madeL_succ ps n (by omega), List.length_append]
     omega
theorem getD_prt {ps : List Prt} {k : Nat} (h : k < ps.length) : ps.getD k prt0 = ps[k] := by simp [List.getD, List.getElem?_eq_getElem h]
structure PrB (w : World) (v : Value) (M PB : Nat) (ps : List Prt) : Prop where
 m : PB ≠ M
 v : v.ownBlock ≠ some PB
 c : ∀ i (h : i < ps.length), w.cell? ⟨PB, i * 3, none⟩ = some (.int .i64 ps[i].vs) ∧ w.cell? ⟨PB, i * 3 + 1, none⟩ = some (.int .i64 ps[i].cs) ∧ w.cell? ⟨PB, i * 3 + 2, none⟩ = some (.func (.func ps[i].fn) #[] ps[i].caps)
theorem PrB.kp {w w1 : World} {v v1 : Value} {M PB : Nat} {ps : List Prt} (h : PrB w v M PB ps) (h0 : 0 < ps.length) (hk : Kp M w v w1 v1) : PrB w1 v1 M PB ps := by
 have g : ∀ j x, w.cell? ⟨PB, j, none⟩ = some x → w1.cell? ⟨PB, j, none⟩ = some x ∧ v1.ownBlock ≠ some PB := fun j x hx => hk.keep _ x hx (fun e => h.m (by cases e; rfl)) (fun e => h.m (by cases e; rfl)) h.v
 refine ⟨h.m, (g _ _ (h.c 0 h0).1).2, fun i hi => ?_⟩
 obtain ⟨h1, h2, h3⟩ := h.c i hi
 exact ⟨(g _ _ h1).1, (g _ _ h2).1, (g _ _ h3).1⟩
theorem PrB.later {w w1 : World} {v : Value} {M PB : Nat} {ps : List Prt} (h : PrB w v M PB ps) (hb : Below w.heap.size w w1) : PrB w1 v M PB ps :=
 ⟨h.m, h.v, fun i hi => ⟨cell_later hb (h.c i hi).1, cell_later hb (h.c i hi).2.1, cell_later hb (h.c i hi).2.2⟩⟩
structure POk (w0 : World) (M : Nat) (C : Ci) (last : Nat) (p : Prt) : Prop where
 v0 : 0 ≤ p.vs
 v1 : p.vs ≤ 1000000000000
 c0 : p.cs = p.L.length
 c1 : p.cs ≤ 1000000000000
 mks : ((last : Int) + 1) * C.f ≤ 200000 → Makes w0 M C last p
 en : ∀ (args : Array Value) (w : World), (callFunc p.fn args).run Tryz.prog w = .ok (.enter p.fn args) w
theorem sumV_bd {ps : List Prt} (h : ∀ p ∈ ps, 0 ≤ p.vs ∧ p.vs ≤ 1000000000000) (k : Nat) (hk : k ≤ ps.length) : 0 ≤ sumV ps k ∧ sumV ps k ≤ k * 1000000000000 := by
 induction k with
 | zero => exact ⟨Int.le_refl _, by simp [sumV]⟩
 | succ k ih =>
   have := ih (by omega)
   have h2 := h ps[k] (List.getElem_mem (by omega))
   rw [← getD_prt (by omega)] at h2
   show 0 ≤ sumV ps k + (ps.getD k prt0).vs ∧ sumV ps k + (ps.getD k prt0).vs ≤ _
   omega
theorem sumC_bd {ps : List Prt} (h : ∀ p ∈ ps, 0 ≤ p.cs ∧ p.cs ≤ 1000000000000) (k : Nat) (hk : k ≤ ps.length) : 0 ≤ sumC ps k ∧ sumC ps k ≤ k * 1000000000000 := by
 induction k with
 | zero => exact ⟨Int.le_refl _, by simp [sumC]⟩
 | succ k ih =>
   have := ih (by omega)
   have h2 := h ps[k] (List.getElem_mem (by omega))
   rw [← getD_prt (by omega)] at h2
   show 0 ≤ sumC ps k + (ps.getD k prt0).cs ∧ sumC ps k + (ps.getD k prt0).cs ≤ _
   omega
theorem sumV_mono {ps : List Prt} (h : ∀ p ∈ ps, 0 ≤ p.vs ∧ p.vs ≤ 1000000000000) {k n : Nat} (hk : k ≤ n) (hn : n ≤ ps.length) : sumV ps k ≤ sumV ps n := by
 induction n with
 | zero => obtain rfl : k = 0 := by omega
           exact Int.le_refl _
 | succ n ih =>
   by_cases e : k = n + 1
   · subst e; exact Int.le_refl _
   · have := ih (by omega) (by omega)
     have h2 := h ps[n] (List.getElem_mem (by omega))
     rw [← getD_prt (by omega)] at h2
     show _ ≤ sumV ps n + (ps.getD n prt0).vs
     omega
theorem sumC_len {ps : List Prt} (h : ∀ p ∈ ps, p.cs = p.L.length) (k : Nat) (hk : k ≤ ps.length) : sumC ps k = (madeL ps k).length := by
 induction k with
 | zero => simp [sumC, madeL]
 | succ k ih =>
   have h2 := h ps[k] (List.getElem_mem (by omega))
   show sumC ps k + (ps.getD k prt0).cs = _
   rw [ih (by omega), getD_prt (by omega), h2, madeL_succ ps k (by omega), List.length_append]
   omega
def madE (ps : List Prt) : Int := if 200000 < sumV ps ps.length then 3 else if 800000 < (madeL ps ps.length).length then 2 else chkC (sumV ps ps.length) (madeL ps ps.length)
def MdOut (w0 : World) (E V : Int) (L : List (List Int)) (e : Ending) (w' : World) : Prop := ∃ pv cv rws,
 e = .returned (.tuple #[cval (ofV E V) pv (List.length rws) cv, .int .i64 E]) ∧ numsOf rws = ofL E L ∧ ClAt w' pv rws ∧ Below w0.heap.size w0 w' ∧ (∀ a, pv = some a → w0.heap.size ≤ a.block) ∧ ∀ r ∈ rws, ∀ a, r.at' = some a → w0.heap.size ≤ a.block
theorem mdOut_no {w0 w' : World} {E V : Int} {L : List (List Int)} (hne : E ≠ 0) (hb : Below w0.heap.size w0 w') : MdOut w0 E V L (.returned (.tuple #[cval 0 none 0 0, .int .i64 E])) w' :=
 ⟨none, 0, [], by unfold ofV; rw [if_neg hne]; rfl, by unfold ofL; rw [if_neg hne]; rfl, clAt_nil _, hb, (fun a h => by cases h), (fun r hr => by cases hr)⟩
theorem first_zero {V : Int} {L : List (List Int)} (h : firstE V L = 0) : ∀ c ∈ L, ∀ x ∈ c, x ≠ 0 := by
 induction L with
 | nil => intro c hc; simp at hc
 | cons d t ih =>
   unfold firstE at h
   by_cases hr : rowE V d = 0
   · rw [if_neg (by simpa using hr)] at h
     intro c hc x hx
     rcases List.mem_cons.1 hc with rfl | hc
     · unfold rowE at hr
       split at hr
       · cases hr
       · split at hr
         · cases hr
         · rename_i hn
           rintro rfl
           exact hn (List.any_eq_true.2 ⟨0, hx, by simp [noneC]⟩)
     · exact ih h c hc x hx
   · rw [if_pos (by simpa using hr)] at h
     exact absurd h hr
theorem chkC_zero {V : Int} {L : List (List Int)} (h : chkC V L = 0) : ∀ c ∈ L, ∀ x ∈ c, x ≠ 0 := by
 unfold chkC at h
 split at h
 · cases h
 · split at h
   · cases h
   · exact first_zero h
theorem clAt_res {w : World} {p : Option Addr} {rs : List Row} {G : Nat} (h : ClAt w p rs) (hg : w.heap[G]? = some (.cells #[.int .i64 0, .slice none 0 0] 30)) (hp : ∀ a, p = some a → a.block ≠ G) (hx : ∀ r ∈ rs, ∀ x ∈ r.ns, x ≠ 0) (u u' : Value) :
   ClAt ((w.setCell ⟨G, 0, none⟩ u).setCell ⟨G, 1, none⟩ u') p rs := by
 refine ⟨fun h0 => ?_, fun r hr h0 => ?_⟩
 · obtain ⟨b, off, e, hc⟩ := h.rows h0
   exact ⟨b, off, e, fun j hj => cell_set_far (cell_set_far (hc j hj) (hp ⟨b, off, none⟩ e)) (hp ⟨b, off, none⟩ e)⟩
 · obtain ⟨b, off, e, hc⟩ := h.inn r hr h0
   have hbG : b ≠ G := by
     rintro rfl
     have c0 := hc 0 h0
     have hxx := hx r hr r.ns[0] (List.getElem_mem h0)
     rw [Nat.add_zero, Lib.cell_of_heap hg] at c0
     match off, c0 with
     | 0, c0 => simp at c0; exact hxx c0.symm
     | 1, c0 => simp at c0
     | n + 2, c0 => simp at c0
   exact ⟨b, off, e, fun j hj => cell_set_far (cell_set_far (hc j hj) hbG) hbG⟩
theorem r30 {w : World} {R : Nat} {x y : Value} (h : w.heap[R]? = some (.cells #[x, y] 30)) :
   (w.cell? ⟨R, 0, none⟩ = some x ∧ w.cell? ⟨R, 1, none⟩ = some y ∧ w.frozen? ⟨R, 0, none⟩ = false ∧ w.frozen? ⟨R, 1, none⟩ = false) ∧ ∀ a b, ((w.setCell ⟨R, 0, none⟩ a).setCell ⟨R, 1, none⟩ b).heap[R]? = some (.cells #[a, b] 30) := by
 refine ⟨⟨by rw [Lib.cell_of_heap h]; rfl, by rw [Lib.cell_of_heap h]; rfl, Lib.frozen_of_heap h 0, Lib.frozen_of_heap h 1⟩, fun a b => ?_⟩
 rw [heap_setCell_same _ _ _ _ _ _ (heap_setCell_same _ _ _ _ _ _ h)]
 rfl
theorem res30 {fn : Func} {p u : Tmp} (h : fn.results = #[.cell p 30, .tmp u]) (tmps : Array Value) {w : World} {R : Nat} {a b : Value} (hp : tmps.getD p undef = .pointer (some ⟨R, 0, none⟩)) (hg : w.heap[R]? = some (.cells #[a, b] 30)) :
   (results fn tmps).run Tryz.prog w = .ok (.tuple #[.agg #[a, b], tmps.getD u undef]) w := by
 have hld := run_loadVar_row (P := Tryz.prog) _ R 30 30 _ _ _ hg Tryz.underlying30 rfl (by kernel_rfl)
 rw [results_cell_tmp h, hp]
 simp [asAddr, hld, Result.andThen]
def MdKp (w : World) (M : Nat) (w' : World) : Prop := ∀ g, g < w.heap.size → g ≠ M → w'.heap[g]? = w.heap[g]?
theorem MdKp.set {w w' : World} {M : Nat} (h : MdKp w M w') (a b : Value) : MdKp w M ((w'.setCell ⟨w.heap.size, 0, none⟩ a).setCell ⟨w.heap.size, 1, none⟩ b) := fun g hg hm => by
 rw [Below.heap_setCell _ _ _ _ (by simp; omega), Below.heap_setCell _ _ _ _ (by simp; omega)]
 exact h g hg hm
set_option maxHeartbeats 16000000 in
theorem made_parts (w0 : World) (M : Nat) (C : Ci) (last : Nat) (ps : List Prt) (hp0 : 0 < ps.length) (hp1 : ps.length ≤ 10) (hok : ∀ p ∈ ps, POk w0 M C last p) (hcl : ∀ c ∈ madeL ps ps.length, c.length ≤ 4000000) (hvs : sumV ps ps.length ≤ 200000 → ((last : Int) + 1) * C.f ≤ 200000) (hnd : ∀ k (h : k < ps.length) x, ps[k].need = some x → sumV ps k = x) (PB : Nat) (w : World)
   (hU : Un w0 w M (.slice none 0 0) 0 [] C last) (hP : PrB w (.slice none 0 0) M PB ps) (hB : ∀ p ∈ ps, Bxs w (.slice none 0 0) M p.bx) :
   Calls Tryz.prog 24 #[.pointer (some ⟨M, 0, none⟩), .slice (some ⟨PB, 0, none⟩) ps.length ps.length] w (fun e w' => MdOut w0 (madE ps) (sumV ps ps.length) (madeL ps ps.length) e w' ∧ MdKp w M w') := by
 have hvb : ∀ p ∈ ps, 0 ≤ p.vs ∧ p.vs ≤ 1000000000000 := fun p h => ⟨(hok p h).v0, (hok p h).v1⟩
 have HSL := hide (sumC_len (fun p h => (hok p h).c0))
 have HVB := hide (fun k hk => sumV_bd hvb k hk)
 have HCB := hide (fun k hk => sumC_bd (ps := ps) (fun p h => ⟨by rw [(hok p h).c0]; omega, (hok p h).c1⟩) k hk)
 have HVM := hide (fun k (hk : k ≤ ps.length) => sumV_mono hvb hk (Nat.le_refl _))
 have HOK := hide hok
 have HU := hide hU
 have HP := hide hP
 have HB := hide hB
 have HCL := hide hcl
 have HVS := hide hvs
 have HND := hide hnd
 have hb0 : Below w.heap.size w (w.alloc (.cells #[.int .i64 0, .slice none 0 0] 30)) := bal (Below.refl _ _) _
 have HB0 := hide hb0
 have HG0 : Hid ((w.alloc (.cells #[.int .i64 0, .slice none 0 0] 30)).heap[w.heap.size]? = some (.cells #[.int .i64 0, .slice none 0 0] 30)) := alloc_at rfl
 have HSV : Hid (∀ k, sumV ps (k + 1) = sumV ps k + (ps.getD k prt0).vs) := fun _ => rfl
 have HSC : Hid (∀ k, sumC ps (k + 1) = sumC ps k + (ps.getD k prt0).cs) := fun _ => rfl
 have HE : Hid (madE ps = if 200000 < sumV ps ps.length then 3 else if 800000 < (madeL ps ps.length).length then 2 else chkC (sumV ps ps.length) (madeL ps ps.length)) := rfl
 clear hok hU hP hB hcl hvb hb0 hvs hnd
 go_enter Tryz.func24, Tryz.ntmps24
 go_wp2
 generalize w.alloc (.cells #[.int .i64 0, .slice none 0 0] 30) = w1 at *
 go_loopw [6, 7, 15] (fun a b i wr => ∃ k : Nat, k ≤ ps.length ∧ i = .int .i64 k ∧ a = .int .i64 (sumV ps k) ∧ b = .int .i64 (sumC ps k) ∧ Hid (Below w1.heap.size w1 wr)) (fun _ _ i _ => ps.length - (intOf i).toNat)
 case atStart => exact ⟨0, Nat.zero_le _, rfl, rfl, rfl, Below.refl _ _⟩
 case round =>
   obtain ⟨k, hk, rfl, rfl, rfl, HBW⟩ := hrel
   by_cases hlt : k < ps.length
   · have hki : (k : Int) < (ps.length : Int) := by omega
     obtain ⟨c0, c1, c2⟩ := (HP.out.later (bthen HB0.out HBW.out)).c k hlt
     have hs1 := HSV.out k
     have hs2 := HSC.out k
     rw [getD_prt hlt] at hs1 hs2
     have hv := HVB.out k hk
     have hv2 := HVB.out (k + 1) (by omega)
     have hc := HCB.out k hk
     have hc2 := HCB.out (k + 1) (by omega)
     generalize hV1 : sumV ps k = V1 at *
     generalize hC1 : sumC ps k = C1 at *
     generalize ps[k].vs = pvs at *
     generalize ps[k].cs = pcs at *
     generalize ps[k].fn = pfn at *
     generalize ps[k].caps = pca at *
     have ww1 := wrap_id (x := V1 + pvs) (by omega) (by omega)
     have ww2 := wrap_id (x := C1 + pcs) (by omega) (by omega)
     have HS1 := hide hs1
     have HS2 := hide hs2
     have HB2 : Hid (Below w1.heap.size w1 (wr.alloc (.cells #[.int .i64 pvs, .int .i64 pcs, .func (.func pfn) #[] pca] 65))) := bal HBW.out _
     clear hs1 hs2 hV1 hC1 hv hv2 hc hc2
     go_wp2
     go_roundw
     case rel => exact ⟨k + 1, by omega, by go_num, by rw [HS1.out], by rw [HS2.out], HB2⟩
     case measure => simp [intOf]; omega
   · obtain rfl : k = ps.length := by omega
     have hvv := HVB.out ps.length (Nat.le_refl _)
     have hcc := HSL.out ps.length (Nat.le_refl _)
     have hbW := bthen HB0.out HBW.out
     have HW := hide hbW
     have hG : w.heap.size < w1.heap.size := (Array.getElem?_eq_some_iff.1 HG0.out).1
     have hGr : wr.heap[w.heap.size]? = some (.cells #[.int .i64 0, .slice none 0 0] 30) := (HBW.out.block _ hG).trans HG0.out
     have HGR := hide hGr
     have gz0 : wr.cell? ⟨w.heap.size, 0, none⟩ = some (.int .i64 0) := by rw [Lib.cell_of_heap hGr]; rfl
     have gz1 : wr.cell? ⟨w.heap.size, 1, none⟩ = some (.slice none 0 0) := by rw [Lib.cell_of_heap hGr]; rfl
     have gf0 : wr.frozen? ⟨w.heap.size, 0, none⟩ = false := Lib.frozen_of_heap hGr 0
     have gf1 : wr.frozen? ⟨w.heap.size, 1, none⟩ = false := Lib.frozen_of_heap hGr 1
     clear hbW hGr
     have HR := hide (r30 HGR.out)
     have HMK : Hid (MdKp w M wr) := fun g hg _ => HW.out.block g hg
     have HCV : Hid (sumC ps ps.length = (madeL ps ps.length).length) := hcc
     by_cases h3 : 200000 < sumV ps ps.length
     · have HX : Hid (madE ps = 3) := by unfold Hid; rw [HE.out, if_pos h3]
       have HEND : Hid (MdOut w0 3 (sumV ps ps.length) (madeL ps ps.length) (.returned (.tuple #[cval 0 none 0 0, .int .i64 3])) ((wr.setCell ⟨w.heap.size, 0, none⟩ (.int .i64 0)).setCell ⟨w.heap.size, 1, none⟩ (.slice none 0 0))) :=
         mdOut_no (by decide) (HU.out.bl.trans (((HW.out.setCell (p := ⟨w.heap.size, 0, none⟩) (Nat.le_refl _) _).setCell (p := ⟨w.heap.size, 1, none⟩) (Nat.le_refl _) _).mono HU.out.sz))
       clear hcc hvv HW HU HP HB HOK HVB HVM HCB HSL HCL HE HSV HSC HBW HB0 HG0 HGR HCV
       generalize sumV ps ps.length = V at *
       generalize sumC ps ps.length = Cc at *
       go_wp2
       refine bodyPost_ret (res30 rfl _ rfl (HR.out.2 _ _)) rfl ?_
       rw [HX.out]
       exact ⟨HEND.out, HMK.out.set _ _⟩
     · have h3' : decide (200000 < sumV ps ps.length) = false := by simpa using h3
       by_cases h2 : 800000 < (madeL ps ps.length).length
       · have HX : Hid (madE ps = 2) := by unfold Hid; rw [HE.out, if_neg h3, if_pos h2]
         have h2' : 800000 < sumC ps ps.length := by omega
         have HEND : Hid (MdOut w0 2 (sumV ps ps.length) (madeL ps ps.length) (.returned (.tuple #[cval 0 none 0 0, .int .i64 2])) ((wr.setCell ⟨w.heap.size, 0, none⟩ (.int .i64 0)).setCell ⟨w.heap.size, 1, none⟩ (.slice none 0 0))) :=
           mdOut_no (by decide) (HU.out.bl.trans (((HW.out.setCell (p := ⟨w.heap.size, 0, none⟩) (Nat.le_refl _) _).setCell (p := ⟨w.heap.size, 1, none⟩) (Nat.le_refl _) _).mono HU.out.sz))
         clear hcc hvv HW HU HP HB HOK HVB HVM HCB HSL HCL HE HSV HSC HBW HB0 HG0 HGR HCV h3 h2
         generalize sumV ps ps.length = V at *
         generalize sumC ps ps.length = Cc at *
         go_wp2
         refine bodyPost_ret (res30 rfl _ rfl (HR.out.2 _ _)) rfl ?_
         rw [HX.out]
         exact ⟨HEND.out, HMK.out.set _ _⟩
       · have h2' : decide (800000 < sumC ps ps.length) = false := by simp; omega
         have HX : Hid (madE ps = chkC (sumV ps ps.length) (madeL ps ps.length)) := by unfold Hid; rw [HE.out, if_neg h3, if_neg h2]
         have HU2 := hide (HU.out.later HW.out)
         have HP2 := hide (HP.out.later HW.out)
         have HB2 : Hid (∀ p ∈ ps, Bxs wr (.slice none 0 0) M p.bx) := fun p hp => (HB.out p hp).later HW.out
         have hGn := HU.out.new (Nat.le_refl w.heap.size)
         have hw0 := HU.out.sz
         have hGl : w.heap.size < wr.heap.size := Nat.lt_of_lt_of_le hG HBW.out.size
         clear h3 h2 hcc HP HB HU HBW HB0 HG0
         generalize wr = w2 at *
         go_wp2
         go_loopw [36] (fun i wr => ∃ k : Nat, k ≤ ps.length ∧ i = .int .i64 k ∧ Hid (∃ v' rs', numsOf rs' = madeL ps k ∧ Un w0 wr M v' (sumV ps k) rs' C last ∧ Kp M w2 (.slice none 0 0) wr v')) (fun i _ => ps.length - (intOf i).toNat)
         case atStart => exact ⟨0, Nat.zero_le _, rfl, _, [], by simp [madeL, numsOf], HU2.out, Kp.refl _ _ _⟩
         case round =>
           obtain ⟨k, hk, rfl, HQ⟩ := hrel
           obtain ⟨v1, rs1, hn1, hU1, hk1⟩ := HQ.out
           by_cases hlt : k < ps.length
           · have hki : (k : Int) < (ps.length : Int) := by omega
             obtain ⟨c0, c1, c2⟩ := (HP2.out.kp hp0 hk1).c k hlt
             have hpk := HOK.out ps[k] (List.getElem_mem hlt)
             have hBk := (HB2.out ps[k] (List.getElem_mem hlt)).kp hk1
             have hent := hpk.en
             have hML := madeL_succ ps k hlt
             have hMM := madeL_mono ps (show k + 1 ≤ ps.length by omega) (Nat.le_refl _)
             have hln := numsOf_lenE hn1
             have hs1 := HSV.out k
             rw [getD_prt hlt] at hs1
             have hvk := HVB.out k hk
             have hvm := HVM.out (k + 1) (by omega)
             have hL : (madeL ps ps.length).length ≤ 800000 := by have := HCV.out; simp at h2'; omega
             have hV : sumV ps ps.length ≤ 200000 := by simpa using h3'
             rw [hML, List.length_append] at hMM
             have hbA : Below wr.heap.size wr (wr.alloc (.cells #[.int .i64 ps[k].vs, .int .i64 ps[k].cs, .func (.func ps[k].fn) #[] ps[k].caps] 65)) := bal (Below.refl _ _) _
             have HC := hide (hpk.mks (HVS.out hV) _ v1 (sumV ps k) rs1 (hU1.later hbA) (hBk.later hbA) (by omega) (by omega) (by omega) (HND.out k hlt))
             rw [← hs1] at HC
             have HN1 := hide hn1
             have HK1 := hide (hk1.trans (Kp.later hbA))
             have HML := hide hML
             clear hn1 hU1 hk1 hpk hBk hML hMM hln hs1 hvk hvm hL hV hbA HQ
             generalize ps[k].vs = pvs at *
             generalize ps[k].cs = pcs at *
             generalize ps[k].fn = pfn at *
             generalize ps[k].caps = pca at *
             generalize ps[k].L = pL at *
             go_wp2_with fail
             refine HC.out.mono ?_
             rintro e w4 ⟨rfl, v4, rs4, hn4, hU4, hk4⟩
             have HR4 := hide (show ∃ v' rs', numsOf rs' = madeL ps (k + 1) ∧ Un w0 w4 M v' (sumV ps (k + 1)) rs' C last ∧ Kp M w2 (.slice none 0 0) w4 v' from ⟨v4, rs4, by rw [hn4, HN1.out, HML.out], hU4, HK1.out.trans hk4⟩)
             clear hn4 hU4 hk4 HC HK1 HN1 HML
             go_wp2
             go_roundw
             case rel => exact ⟨k + 1, by omega, by go_num, HR4⟩
             case measure => simp [intOf]; omega
           · obtain rfl : k = ps.length := by omega
             have hnG := (hk1.blk w.heap.size hGl hGn.1 (by simp [Value.ownBlock])).1
             obtain ⟨pv, cv, rfl, hrw⟩ := owns_rows hU1.cm.row
             have hCl : ClAt wr pv rs1 := ⟨hrw, hU1.cm.inn⟩
             have hln := numsOf_lenE hn1
             have hL : (madeL ps ps.length).length ≤ 800000 := by have := HCV.out; simp at h2'; omega
             have hin : ∀ r ∈ rs1, r.ns.length ≤ maxLen := fun r hr => by
               have := HCL.out r.ns (by rw [← hn1]; exact List.mem_map_of_mem hr)
               unfold maxLen
               omega
             have HCK := hide (checkC_any (sumV ps ps.length) pv cv rs1 (by omega) hin wr hCl)
             rw [hn1, ← HX.out] at HCK
             have m0 := hU1.cm.c0
             have m1 := hU1.cm.c1
             have hM := World.block_lt_of_cell? _ _ m0
             simp only at hM
             have hGr : wr.heap[w.heap.size]? = some (.cells #[.int .i64 0, .slice none 0 0] 30) := hnG.trans HGR.out
             have hpG := (hk1.blk w.heap.size hGl hGn.1 (by simp [Value.ownBlock])).2
             have HMW : Hid (MdKp w M wr) := fun g hg hm => ((hk1.blk g (Nat.lt_trans hg hGl) hm (by simp [Value.ownBlock])).1).trans (HMK.out g hg hm)
             have HFA : Hid ((∀ a, pv = some a → w0.heap.size ≤ a.block) ∧ (∀ r ∈ rs1, ∀ a, r.at' = some a → w0.heap.size ≤ a.block) ∧ ∀ a, pv = some a → a.block ≠ w.heap.size) :=
               ⟨fun a ha => (hU1.cm.row.lt a.block (by rw [ha]; rfl)).1, fun r hr a ha => (hU1.cm.far r hr a ha).2.2.2, fun a ha e => hpG (by rw [ha, ← e]; rfl)⟩
             have HBW : Hid (Below w0.heap.size w0 wr) := hU1.bl
             have hGl2 : w.heap.size < wr.heap.size := (Array.getElem?_eq_some_iff.1 hGr).1
             have HCl := hide hCl
             have HGr := hide hGr
             have HN1 := hide hn1
             have HZ : Hid (madE ps = 0 → ∀ r ∈ rs1, ∀ x ∈ r.ns, x ≠ 0) := fun h r hr x hx => chkC_zero (HX.out.symm.trans h) r.ns (by rw [← hn1]; exact List.mem_map_of_mem hr) x hx
             clear hU1 hk1 hCl hGr hn1 hnG hpG hrw hin hL hln HQ
             go_wp2_with fail
             refine HCK.out.mono ?_
             rintro e w5 ⟨rfl, hb5⟩
             have HM5 : Hid (MdKp w M w5) := fun g hg hm => (hb5.block g (Nat.lt_trans hg hGl2)).trans (HMW.out g hg hm)
             have HR5 := hide (r30 ((hb5.block _ hGl2).trans HGr.out))
             obtain ⟨g0, g1, gf0, gf1⟩ := HR5.out.1
             have m0' := cell_later hb5 m0
             have m1' := cell_later hb5 m1
             have HB5 := hide (HBW.out.trans (hb5.mono (by omega)))
             have HC5 := hide (HCl.out.later hb5)
             have HG5 := hide ((hb5.block _ hGl2).trans HGr.out)
             clear m0 m1 hb5 HCK HCl HGr HBW
             by_cases hE : madE ps = 0
             · have hz := HZ.out hE
               have hlen := numsOf_lenE HN1.out
               have HEND : Hid (MdOut w0 0 (sumV ps ps.length) (madeL ps ps.length) (.returned (.tuple #[cval (sumV ps ps.length) pv rs1.length cv, .int .i64 0])) ((w5.setCell ⟨w.heap.size, 0, none⟩ (.int .i64 (sumV ps ps.length))).setCell ⟨w.heap.size, 1, none⟩ (.slice pv rs1.length cv))) :=
                 ⟨pv, cv, rs1, rfl, HN1.out, clAt_res HC5.out HG5.out HFA.out.2.2 hz _ _, ((HB5.out.setCell (p := ⟨w.heap.size, 0, none⟩) hw0 _).setCell (p := ⟨w.heap.size, 1, none⟩) hw0 _), HFA.out.1, HFA.out.2.1⟩
               rw [hE]
               have HHE := hide hE
               clear hz hlen HB5 HC5 HG5 HFA HZ HN1 hE
               generalize hVV : sumV ps ps.length = V at *
               have HVV := hide hVV
               clear hVV
               go_wp2
               refine bodyPost_ret (res30 rfl _ rfl (HR5.out.2 _ _)) rfl ?_
               rw [HHE.out, HVV.out]
               exact ⟨HEND.out, HM5.out.set _ _⟩
             · have hEb : (madE ps != 0) = true := by simpa using hE
               have HEND : Hid (MdOut w0 (madE ps) (sumV ps ps.length) (madeL ps ps.length) (.returned (.tuple #[cval 0 none 0 0, .int .i64 (madE ps)])) ((w5.setCell ⟨w.heap.size, 0, none⟩ (.int .i64 0)).setCell ⟨w.heap.size, 1, none⟩ (.slice none 0 0))) :=
                 mdOut_no hE ((HB5.out.setCell (p := ⟨w.heap.size, 0, none⟩) hw0 _).setCell (p := ⟨w.heap.size, 1, none⟩) hw0 _)
               clear HB5 HC5 HG5 HFA HZ HN1 hE HX HE
               generalize hVV : sumV ps ps.length = V at *
               have HVV := hide hVV
               clear hVV
               generalize hEE : madE ps = E at *
               have HEE := hide hEE
               clear hEE
               go_wp2
               refine bodyPost_ret (res30 rfl _ rfl (HR5.out.2 _ _)) rfl ?_
               rw [HVV.out, HEE.out]
               exact ⟨HEND.out, HM5.out.set _ _⟩
end Go.Proofs.YtmambfdimeeijaaGreatDoor
