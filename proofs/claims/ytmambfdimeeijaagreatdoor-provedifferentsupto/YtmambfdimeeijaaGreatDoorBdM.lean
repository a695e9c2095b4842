/- The plain texts of steps: StepClauses. -/
import Derived.Test.YtmambfdimeeijaaGreatDoorTpM
import Derived.Test.YtmambfdimeeijaaGreatDoorSeM
import Derived.Deep.CutRange
import Derived.Deep.CutBlock
import Derived.Deep.RegionHeld3
import Derived.Test.YtmambfdimeeijaaGreatDoorBbM
namespace Go.Proofs.YtmambfdimeeijaaGreatDoor
open Go.RowKit Go.Maps Go.WideMaps
set_option maxRecDepth 100000
def loadA : Op := .load 28 (.tmp 48)
theorem loadA_fold : Op.load 28 (.tmp 48) = loadA := rfl
theorem loadA_is : loadA = Op.load 28 (.tmp 48) := rfl
attribute [local go_sem] loadA_is
section
set_option maxHeartbeats 16000000 in
theorem stepD_any (C : Ci) (last : Nat) (w : World) (hok : COk w C last) :
   Calls Tryz.prog 7 #[C.v, .int .i64 last, .bool false, .bool true] w (StO w (apV C last) (apL C last)) := by
 have hfe : C.ins + (C.ps.length : Int) = C.f := rfl
 have hvs := hok.vs
 have hff := hok.f0
 have hla := hok.la
 have hvv : C.f * ((last : Int) + 1) = ((last : Int) + 1) * C.f := Int.mul_comm _ _
 have hV0 : 0 ≤ C.f * ((last : Int) + 1) := Int.mul_nonneg hff.1 (by omega)
 have wf := wrap_id (x := C.f) (by omega) (by omega)
 have wl := wrap_id (x := (last : Int) + 1) (by omega) (by omega)
 have wv := wrap_id (x := C.f * ((last : Int) + 1)) (by omega) (by omega)
 obtain ⟨L, HLE⟩ : ∃ L : List (List Int), Hid (L = []) := ⟨[], rfl⟩
 have HPO : Hid (StO w (apV C last) (apL C last) = StO w (C.f * ((last : Int) + 1) + (cntP last (last + 1) : Int) * C.s) (L ++ stepsL (fun t => andsT C t C.ps.length) (last + 1) ++ stepsL (bondsT C) last ++ stepsL (holdsT C) (last + 1) ++ badC C last ++ stepsL (quietT C) last ++ diffL C last (C.f * ((last : Int) + 1)))) := by
   unfold Hid
   rw [hvv, HLE.out]
   unfold apL apV
   simp only [List.nil_append, List.append_assoc]
 have HV9 : Hid (0 ≤ C.f * ((last : Int) + 1) ∧ C.f * ((last : Int) + 1) ≤ 200000) := ⟨hV0, by rw [hvv]; exact hvs⟩
 generalize StO w (apV C last) (apL C last) = Q at *
 have hb1 : Below w.heap.size w ((((w.alloc (.cells #[.int .i64 C.ins, .slice C.p C.ps.length C.cap, .int .i64 C.a, .int .i64 C.s, .slice C.i.at' C.i.ns.length C.i.cap, .slice C.n.at' C.n.ns.length C.n.cap, .slice C.b.at' C.b.ns.length C.b.cap, .slice C.h.at' C.h.ns.length C.h.cap] 27)).alloc (.cells #[.int .i64 0, .slice none 0 0] 30)).alloc (.cells #[.int .i64 C.f] 3)).alloc (.cells #[.int .i64 (C.f * ((last : Int) + 1)), .slice none 0 0] 30)) := bal (bal (bal (bal (Below.refl _ _) _) _) _) _
 have HX : Hid (Fx w ((((w.alloc (.cells #[.int .i64 C.ins, .slice C.p C.ps.length C.cap, .int .i64 C.a, .int .i64 C.s, .slice C.i.at' C.i.ns.length C.i.cap, .slice C.n.at' C.n.ns.length C.n.cap, .slice C.b.at' C.b.ns.length C.b.cap, .slice C.h.at' C.h.ns.length C.h.cap] 27)).alloc (.cells #[.int .i64 0, .slice none 0 0] 30)).alloc (.cells #[.int .i64 C.f] 3)).alloc (.cells #[.int .i64 (C.f * ((last : Int) + 1)), .slice none 0 0] 30)) w.heap.size (w.heap.size + 1) (w.heap.size + 1 + 1) (w.heap.size + 1 + 1 + 1) C last) :=
   ⟨hok, hb1, by omega, by simp [go_sem], by simp [go_sem], by simp [go_sem], by simp [go_sem], by simp [go_sem], by simp [go_sem], by simp [go_sem], by simp [go_sem], by simp [go_sem],
     ((show Below (World.heap (((w.alloc (.cells #[.int .i64 C.ins, .slice C.p C.ps.length C.cap, .int .i64 C.a, .int .i64 C.s, .slice C.i.at' C.i.ns.length C.i.cap, .slice C.n.at' C.n.ns.length C.n.cap, .slice C.b.at' C.b.ns.length C.b.cap, .slice C.h.at' C.h.ns.length C.h.cap] 27)).alloc (.cells #[.int .i64 0, .slice none 0 0] 30)))).size (((w.alloc (.cells #[.int .i64 C.ins, .slice C.p C.ps.length C.cap, .int .i64 C.a, .int .i64 C.s, .slice C.i.at' C.i.ns.length C.i.cap, .slice C.n.at' C.n.ns.length C.n.cap, .slice C.b.at' C.b.ns.length C.b.cap, .slice C.h.at' C.h.ns.length C.h.cap] 27)).alloc (.cells #[.int .i64 0, .slice none 0 0] 30))) (((((w.alloc (.cells #[.int .i64 C.ins, .slice C.p C.ps.length C.cap, .int .i64 C.a, .int .i64 C.s, .slice C.i.at' C.i.ns.length C.i.cap, .slice C.n.at' C.n.ns.length C.n.cap, .slice C.b.at' C.b.ns.length C.b.cap, .slice C.h.at' C.h.ns.length C.h.cap] 27)).alloc (.cells #[.int .i64 0, .slice none 0 0] 30)).alloc (.cells #[.int .i64 C.f] 3)).alloc (.cells #[.int .i64 (C.f * ((last : Int) + 1)), .slice none 0 0] 30))) from bal (bal (Below.refl _ _) _) _).block _ (by simp)).trans (alloc_at (by simp)), by omega, by omega, by omega, by omega⟩
 have HS : Hid (Sc ((((w.alloc (.cells #[.int .i64 C.ins, .slice C.p C.ps.length C.cap, .int .i64 C.a, .int .i64 C.s, .slice C.i.at' C.i.ns.length C.i.cap, .slice C.n.at' C.n.ns.length C.n.cap, .slice C.b.at' C.b.ns.length C.b.cap, .slice C.h.at' C.h.ns.length C.h.cap] 27)).alloc (.cells #[.int .i64 0, .slice none 0 0] 30)).alloc (.cells #[.int .i64 C.f] 3)).alloc (.cells #[.int .i64 (C.f * ((last : Int) + 1)), .slice none 0 0] 30)) ((((w.alloc (.cells #[.int .i64 C.ins, .slice C.p C.ps.length C.cap, .int .i64 C.a, .int .i64 C.s, .slice C.i.at' C.i.ns.length C.i.cap, .slice C.n.at' C.n.ns.length C.n.cap, .slice C.b.at' C.b.ns.length C.b.cap, .slice C.h.at' C.h.ns.length C.h.cap] 27)).alloc (.cells #[.int .i64 0, .slice none 0 0] 30)).alloc (.cells #[.int .i64 C.f] 3)).alloc (.cells #[.int .i64 (C.f * ((last : Int) + 1)), .slice none 0 0] 30)) (w.heap.size + 1 + 1 + 1) (C.f * ((last : Int) + 1)) L) :=
   ⟨_, [], HLE.out.symm, cm_zero (by simp [go_sem]) (by simp [go_sem]) (by simp [go_sem]) (by simp [go_sem]), Below.refl _ _⟩
 have HL : Hid (L.length ≤ 300000000) := by rw [HLE.out]; simp [Hid]
 clear hok hb1 hvv hV0 hvs HLE
 unfold Ci.v circ
 simp only [Sl.v] at *
 go_enter Tryz.func7, Tryz.ntmps7
 go_upto_block 0 with fail
 generalize ((((w.alloc (.cells #[.int .i64 C.ins, .slice C.p C.ps.length C.cap, .int .i64 C.a, .int .i64 C.s, .slice C.i.at' C.i.ns.length C.i.cap, .slice C.n.at' C.n.ns.length C.n.cap, .slice C.b.at' C.b.ns.length C.b.cap, .slice C.h.at' C.h.ns.length C.h.cap] 27)).alloc (.cells #[.int .i64 0, .slice none 0 0] 30)).alloc (.cells #[.int .i64 C.f] 3)).alloc (.cells #[.int .i64 (C.f * ((last : Int) + 1)), .slice none 0 0] 30)) = w1 at *
 generalize w.heap.size + 1 + 1 + 1 = M at *
 generalize w.heap.size + 1 + 1 = F at *
 generalize w.heap.size + 1 = G at *
 generalize w.heap.size = B at *
 generalize hV : C.f * ((last : Int) + 1) = V at *
 clear wf wl wv hV hfe
 have hok := HX.out.ok
 have hla := hok.la
 have hpl := hok.pl
 have hi0 := hok.i0
 have hi1 := hok.i1
 have HTF : Hid (∀ t : Nat, t ≤ last → 0 ≤ (t : Int) * C.f ∧ (t : Int) * C.f + C.f ≤ 200000) := fun t ht => hok.tf ht
 have HPB : Hid (∀ k (h : k < C.ps.length), (2 ≤ C.ps[k].1 ∧ C.ps[k].1 ≤ 10000000) ∧ 2 ≤ C.ps[k].2 ∧ C.ps[k].2 ≤ 10000000) := fun k h => by
   obtain ⟨s1, s2, s3, s4⟩ := stand_two (hok.pr k h)
   omega
 have HCL : Hid (∀ t, t ≤ last + 1 → (L ++ stepsL (fun t => andsT C t C.ps.length) t).length ≤ 400000000) := fun t ht => by
   have := ands_le C t (by omega) hpl
   have := HL.out
   simp only [List.length_append]
   omega
 have HSU2 : Hid (∀ t : Nat, t ≤ last → stepsL (fun t => andsT C t C.ps.length) (t + 1) = stepsL (fun t => andsT C t C.ps.length) t ++ andP C.ins (t * C.f) C.ps C.ps.length) := fun t ht => by
   rw [stepsL_succ, andP_T C t _ (Nat.le_refl _) (fun i h => ⟨(HPB.out i h).1.1, (HPB.out i h).2.1⟩)]
 clear hok
 have HL9 := hide (HCL.out (last + 1) (Nat.le_refl _))
 go_cut [] from 13 to 57 (fun wx => Hid (Sc w1 wx M V (L ++ stepsL (fun t => andsT C t C.ps.length) (last + 1))))
 case rest =>
   go_step
   rw [HPO.out]
   exact st_bonds (by kernel_rfl) w w1 B G F M C last false V _ wc HX hcut HL9 (show Hid (false = false) from rfl) HV9
 case first =>
 clear HL9
 go_wp2_with fail
 go_loopw [13] (fun i wr => ∃ t : Nat, t ≤ last + 1 ∧ i = .int .i64 t ∧ Hid (Sc w1 wr M V (L ++ stepsL (fun t => andsT C t C.ps.length) t))) (fun i _ => last + 1 - (intOf i).toNat)
 case atStart => exact ⟨0, Nat.zero_le _, rfl, by simpa [stepsL, Hid] using HS.out⟩
 case round =>
   obtain ⟨t, ht, rfl, HR2⟩ := hrel
   by_cases hlt : t ≤ last
   · have hti : (t : Int) ≤ (last : Int) := by omega
     have htf := HTF.out t hlt
     obtain ⟨v, rs, hn, hc, hbm⟩ := HR2.out
     have hbd : Below wr.heap.size wr wr.drew := (Below.refl _ wr).drew
     have hMd : M < wr.drew.heap.size := Nat.lt_of_lt_of_le HR2.out.lt hbd.size
     have hbmd := hbm.trans (hbd.mono (Nat.le_of_lt HR2.out.lt))
     have HCD := hide (hc.below hbd)
     have md := HCD.out.c1
     have hl5 : rs.length + (andP C.ins (t * C.f) C.ps C.ps.length).length ≤ 2000000000 := by
       have h1 := HCL.out t (by omega)
       rw [← hn, numsOf_len] at h1
       rw [andP_len _ _ _ _ (Nat.le_refl _)]
       omega
     have HSU : Hid (∀ u, Below M w1 u → u.cell? ⟨B, 0, none⟩ = some (.int .i64 C.ins) ∧ u.cell? ⟨B, 1, none⟩ = some (.slice C.p C.ps.length C.cap) ∧ u.cell? ⟨F, 0, none⟩ = some (.int .i64 C.f)) := fun u hu => by
       have f9 := HX.out.at hu
       exact ⟨f9.x0, f9.x1, f9.xf⟩
     have HNX : Hid (numsOf rs ++ andP C.ins (t * C.f) C.ps C.ps.length = L ++ stepsL (fun t => andsT C t C.ps.length) (t + 1)) := by
       unfold Hid
       rw [hn, HSU2.out t hlt, List.append_assoc]
     have HMU := hide (fun (u : World) (hu : Below M w1 u) => andsP_any C.ins C.p C.ps C.cap (t * C.f) hi0 hi1 (by omega) (fun k h => ⟨⟨by have := (HPB.out k h).1.1; omega, (HPB.out k h).1.2⟩, by have := (HPB.out k h).2.1; omega, (HPB.out k h).2.2⟩) htf.1 (by omega) u (HX.out.at hu).at'.g)
     have wm := wrap_id (x := (t : Int) * C.f) (by omega) (by omega)
     clear hn hc
     generalize andP C.ins (t * C.f) C.ps C.ps.length = X at *
     go_wp2
     simp only [loadA_fold]
     go_region_held3 (fun w' => w'.cell? ⟨B, 0, none⟩ = some (.int .i64 C.ins) ∧ w'.cell? ⟨B, 1, none⟩ = some (.slice C.p C.ps.length C.cap) ∧ w'.cell? ⟨F, 0, none⟩ = some (.int .i64 C.f))
       (first | exact HSU.out _ hbs9 | exact HSU.out _ hbm9 | exact HSU.out _ hbm5 | exact HSU.out _ hbmd | go_keep)
       ((first | (go_at_call 16; refine (HMU.out _ hbmd).mono ?_; intro e w5 hnew
                  obtain ⟨p5, n5, cap5, rfl, hc5, hb5, hap⟩ := sc_new HCD.out hbmd hl5 hnew
                  obtain ⟨p9, n9, c9, w9, hrun9, k1, kf, hsc9, hbm9⟩ := hap
                  have hbm5 := hbmd.trans (hb5.mono (Nat.le_of_lt hMd))
                  have m5 := hc5.c1
                  have hbs9 := hsc9.bel) | (refine step_appR rfl _ _ _ _ rfl _ _ rfl rfl _ _ hrun9 ?_)))
     all_goals
       rename_i hHeld
       have HS9 : Hid (Sc w1 (w9.setCell ⟨M, 1, none⟩ (.slice p9 n9 c9)) M V (L ++ stepsL (fun t => andsT C t C.ps.length) (t + 1))) := by rw [← HNX.out]; exact hsc9
       clear hHeld hsc9 hbs9 hbm9 k1 kf hrun9 hb5 hc5 hbm5 m5 hnew md HCD hMd hbd hbmd hl5 HSU HNX HMU hbm
       generalize w9.setCell ⟨M, 1, none⟩ (.slice p9 n9 c9) = wz at *
       go_wp2
       go_roundw
       case rel => exact ⟨t + 1, by omega, by go_num, HS9⟩
       case measure => simp [intOf]; omega
   · obtain rfl : t = last + 1 := by omega
     have hnt : ¬ ((last + 1 : Nat) : Int) ≤ (last : Int) := by omega
     go_wp2
     go_meet
     exact HR2
end
end Go.Proofs.YtmambfdimeeijaaGreatDoor

namespace Go.Proofs.YtmambfdimeeijaaGreatDoor
open Go.RowKit Go.Maps Go.WideMaps
set_option maxRecDepth 100000
def IRow (w : World) (g : Nat) (ns : List Int) : Prop := ∀ (j : Nat) (h : j < ns.length), w.cell? ⟨g, j, none⟩ = some (.int .i64 ns[j]) ∧ w.frozen? ⟨g, j, none⟩ = false
theorem IRow.kept {w w1 : World} {g : Nat} {ns : List Int} (h : IRow w g ns) (hb : w1.heap[g]? = w.heap[g]?) : IRow w1 g ns := fun j hj =>
 ⟨by rw [World.cell?_of_block (w := w) (a := ⟨g, j, none⟩) hb]; exact (h j hj).1, by rw [World.frozen?_of_block (w := w) (a := ⟨g, j, none⟩) hb]; exact (h j hj).2⟩
theorem IRow.set {w : World} {g : Nat} {ns : List Int} (h : IRow w g ns) (k : Nat) (x : Int) : IRow (w.setCell ⟨g, k, none⟩ (.int .i64 x)) g (ns.set k x) := by
 intro j hj
 rw [List.length_set] at hj
 refine ⟨?_, by rw [World.frozen?_setCell]; exact (h j hj).2⟩
 by_cases e : k = j
 · subst e
   rw [World.cell?_setCell_same w _ _ (h k hj).1]
   simp
 · rw [World.cell?_setCell_other w _ _ _ (by simp), (h j hj).1]
   rw [List.getElem_set_ne e]
theorem irow_ints {w : World} {g : Nat} {ns : List Int} (h : IRow w g ns) : IntsAt w (some ⟨g, 0, none⟩) ns := fun _ => ⟨g, 0, rfl, fun i hi => by rw [Nat.zero_add]; exact (h i hi).1⟩
theorem make_ints (n : Nat) (hn : n ≤ 17592186044416) (w : World) : ∃ w', (Instr.makeSlice 25 (.int .i64 (n : Int)) (.int .i64 (n : Int))).run Tryz.prog w = .ok (.slice (some ⟨w.heap.size, 0, none⟩) n n) w' ∧ IRow w' w.heap.size (List.replicate n 0) ∧ Below w.heap.size w w' ∧ w.heap.size < w'.heap.size := by
 obtain ⟨i0, hi, hz0, hz1, hz2⟩ := info_parts info3
 obtain ⟨w', h1, h2, h3⟩ := run_make_full (P := Tryz.prog) w w.heap.size 25 3 i0 (.int .i64 0) 1 Tryz.underlying25 hi hz0 hz1 .i64 .i64 n (by rw [hz2]; omega) (by unfold maxLen; omega) (Nat.le_refl _)
 refine ⟨w', h1, fun j hj => ?_, ⟨h3.os, h3.tape, h3.output, h3.size, fun k hk => h3.block k hk (by simp)⟩, (h2.lt w.heap.size rfl).2⟩
 have hj' : j < n := by simpa using hj
 refine ⟨?_, h2.frozenAt j⟩
 rw [h2.cellAt j (by omega)]
 simp [toList_madeCells_one, hj', Value.cells]
def curI (f : Nat → Int) (n k : Nat) : List Int := (List.range k).map f ++ List.replicate (n - k) 0
theorem curI_zero (f : Nat → Int) (n : Nat) : curI f n 0 = List.replicate n 0 := by simp [curI]
theorem curI_all (f : Nat → Int) (n : Nat) : curI f n n = (List.range n).map f := by simp [curI]
theorem curI_len (f : Nat → Int) (n k : Nat) (h : k ≤ n) : (curI f n k).length = n := by simp [curI]; omega
theorem curI_set (f : Nat → Int) (n k : Nat) (h : k < n) : (curI f n k).set k (f k) = curI f n (k + 1) := by
 unfold curI
 rw [List.range_succ, List.map_append, List.set_append_right _ _ (by simp)]
 have e : n - k = (n - (k + 1)) + 1 := by omega
 have e2 : k - ((List.range k).map f).length = 0 := by simp
 rw [e, e2, List.replicate_succ, List.set_cons_zero]
 simp
set_option maxHeartbeats 4000000 in
theorem made_any (fn : FuncId) (c : Value) (f : Nat → Int) (n B : Nat) (hn : n ≤ 1000) (F : Nat → Prop) (J : Nat → World → Prop) (w : World) (hB : B ≤ w.heap.size) (hF : ∀ g, F g → g < w.heap.size) (hJ : J 0 w)
   (hst : ∀ k w1 w2, J k w1 → (∀ g, F g → w2.heap[g]? = w1.heap[g]?) → J k w2)
   (hent : ∀ (args : Array Value) (w : World), (callFunc fn args).run Tryz.prog w = .ok (.enter fn args) w)
   (hcl : ∀ k, k < n → ∀ wr, w.heap.size ≤ wr.heap.size → J k wr → Calls Tryz.prog fn #[.int .i64 k, c] wr fun e w' => e = .returned (.int .i64 (f k)) ∧ J (k + 1) w' ∧ Below B wr w' ∧ ∀ g, ¬ F g → g < wr.heap.size → w'.heap[g]? = wr.heap[g]?) :
   Calls Tryz.prog 93 #[.int .i64 n, .func (.func fn) #[] #[c]] w fun e w' => ∃ G, e = .returned (.slice (some ⟨G, 0, none⟩) n n) ∧ w.heap.size ≤ G ∧ IRow w' G ((List.range n).map f) ∧ J n w' ∧ Below B w w' ∧ ∀ g, ¬ F g → g < w.heap.size → w'.heap[g]? = w.heap[g]? := by
 obtain ⟨w1, hmk, hrow, hb1, hlt1⟩ := make_ints n (by omega) w
 have HF := hide hF
 have HST := hide hst
 have HCL := hide hcl
 have HJ1 := hide (hst 0 w w1 hJ (fun g hg => hb1.block g (hF g hg)))
 have HR1 := hide hrow
 have HB1 := hide (hb1.mono hB)
 have HK1 : Hid (∀ g, ¬ F g → g < w.heap.size → w1.heap[g]? = w.heap[g]?) := fun g _ hg => hb1.block g hg
 clear hF hst hcl hJ hrow
 go_enter Tryz.func93, Tryz.ntmps93
 go_wp2
 go_loopw [11] (fun i wr => ∃ k : Nat, k ≤ n ∧ i = .int .i64 k ∧ Hid (IRow wr w.heap.size (curI f n k)) ∧ Hid (J k wr) ∧ Hid (Below B w wr) ∧ Hid (∀ g, ¬ F g → g < w.heap.size → wr.heap[g]? = w.heap[g]?) ∧ w1.heap.size ≤ wr.heap.size) (fun i _ => n - (intOf i).toNat)
 case atStart => exact ⟨0, Nat.zero_le _, rfl, by rw [curI_zero]; exact HR1.out, HJ1, HB1, HK1, Nat.le_refl _⟩
 case round =>
   obtain ⟨k, hk, rfl, HR, HJ, HBW, HKW, hsz⟩ := hrel
   have hcl := curI_len f n k hk
   by_cases hlt : k < n
   · have hki : (k : Int) < (n : Int) := by omega
     have HC := hide (HCL.out k hlt wr (by omega) HJ.out)
     have HS := hide (curI_set f n k hlt)
     go_wp2_with fail
     refine HC.out.mono ?_
     rintro e w2 ⟨rfl, hj2, hb2, hk2⟩
     have hnF : ¬ F w.heap.size := fun h => by have := HF.out _ h; omega
     have hr2 := HR.out.kept (hk2 _ hnF (by omega))
     obtain ⟨g0, g1⟩ := hr2 k (by omega)
     have hs2 := hb2.size
     have HR3 := hide (hr2.set k (f k))
     rw [HS.out] at HR3
     have HJ3 := hide (HST.out (k + 1) w2 (w2.setCell ⟨w.heap.size, k, none⟩ (.int .i64 (f k))) hj2 (fun g hg => Below.heap_setCell w2 _ _ g (by have := HF.out g hg; simp; omega)))
     have HB3 := hide ((HBW.out.trans hb2).setCell (p := ⟨w.heap.size, k, none⟩) hB (.int .i64 (f k)))
     have HK3 : Hid (∀ g, ¬ F g → g < w.heap.size → (w2.setCell ⟨w.heap.size, k, none⟩ (.int .i64 (f k))).heap[g]? = w.heap[g]?) := fun g h1 h2 => by
       rw [Below.heap_setCell w2 _ _ g (by simp; omega), hk2 g h1 (by omega)]
       exact HKW.out g h1 h2
     generalize (curI f n k)[k]'(by omega) = old at *
     generalize f k = x at *
     clear hr2 hj2 hb2 hk2 HR HJ HBW HKW HC HS
     go_wp2
     go_roundw
     case rel => exact ⟨k + 1, by omega, by go_num, HR3, HJ3, HB3, HK3, by simp; omega⟩
     case measure => simp [intOf]; omega
   · obtain rfl : k = n := by omega
     rw [curI_all] at HR
     go_wp2
     go_ret
     exact ⟨w.heap.size, rfl, Nat.le_refl _, HR.out, HJ.out, HBW.out, HKW.out⟩
end Go.Proofs.YtmambfdimeeijaaGreatDoor

namespace Go.Proofs.YtmambfdimeeijaaGreatDoor
open Go.RowKit Go.Maps Go.WideMaps
set_option maxRecDepth 100000
theorem enterB83 (args : Array Value) (w : World) : (callFunc 122 args).run Tryz.prog w = .ok (.enter 122 args) w := by kernel_rfl
theorem enterB118 (args : Array Value) (w : World) : (callFunc 168 args).run Tryz.prog w = .ok (.enter 168 args) w := by kernel_rfl
theorem and_one_bits (y : Int) (h : 0 ≤ y) (h2 : y ≤ 10000000) : bits .and .i64 y 1 = y % 2 := by
 obtain ⟨A, rfl⟩ := Int.eq_ofNat_of_zero_le h
 show IntKind.i64.wrap ((BitVec.ofInt 64 (A : Int) &&& BitVec.ofInt 64 ((1 : Nat) : Int)).toNat : Int) = _
 rw [BitVec.toNat_and, toNat64 A (by omega), toNat64 1 (by omega), Nat.and_one_is_mod, IntKind.wrap_i64]
 omega
theorem pow_div (x : Int) (i : Nat) (hx : 0 ≤ x) (hx2 : x ≤ 255) : 0 ≤ x / 2 ^ i ∧ x / 2 ^ i ≤ 255 := by
 have hp : (0 : Int) < 2 ^ i := Int.pow_pos (by decide)
 refine ⟨Int.ediv_nonneg hx (Int.le_of_lt hp), ?_⟩
 exact Int.le_trans (Int.ediv_le_self _ hx) hx2
theorem const1_any (x : Int) (i : Nat) (hx : 0 ≤ x) (hx2 : x ≤ 255) (hi : i ≤ 8) (B : Nat) (w : World) (c0 : w.cell? ⟨B, 0, none⟩ = some (.int .i64 x)) :
   Calls Tryz.prog 122 #[.int .i64 i, .pointer (some ⟨B, 0, none⟩)] w fun e w' => e = .returned (.int .i64 (x / 2 ^ i % 2)) ∧ w' = w := by
 have hm : min i 64 = i := by omega
 obtain ⟨y0, y1⟩ := pow_div x i hx hx2
 have HA := hide (and_one_bits (x / 2 ^ i) y0 (by omega))
 have HM : Hid (x / 2 ^ i % 2 = 0 ∨ x / 2 ^ i % 2 = 1) := by show _ ∨ _; omega
 go_enter Tryz.func122, Tryz.ntmps122
 go_wp2
 · rename_i hq
   rw [HA.out] at hq
   have hv : x / 2 ^ i % 2 = 1 := by simpa using hq
   have HV := hide hv
   clear hv hq
   go_ret
   exact ⟨ret_int HV.out.symm, rfl⟩
 · rename_i hq
   rw [HA.out] at hq
   have hv : x / 2 ^ i % 2 = 0 := by
     rcases HM.out with h | h
     · exact h
     · rw [h] at hq; simp at hq
   have HV := hide hv
   clear hv hq
   go_ret
   exact ⟨ret_int HV.out.symm, rfl⟩
theorem turned1_any (l : List Int) (p : Option Addr) (cap : Nat) (i : Nat) (hi : i < l.length) (hl : ∀ x ∈ l, 0 ≤ x ∧ x ≤ 10000000) (hn : l.length ≤ 1000) (B : Nat) (w : World) (c0 : w.cell? ⟨B, 0, none⟩ = some (.slice p l.length cap)) (hI : IntsAt w p l) :
   Calls Tryz.prog 168 #[.int .i64 i, .pointer (some ⟨B, 0, none⟩)] w fun e w' => e = .returned (.int .i64 (turn (l.getD i 0))) ∧ w' = w := by
 obtain ⟨b, off, rfl, hc⟩ := hI (by omega)
 have c1 := hc i hi
 have hb := hl _ (List.getElem_mem hi)
 have hg : l.getD i 0 = l[i] := by simp [List.getD, List.getElem?_eq_getElem hi]
 rw [hg]
 have hki : (i : Int) < (l.length : Int) := by omega
 clear hc hg hl hI
 generalize l[i] = x at *
 have HT := hide (fun w => turn_any x hb.1 hb.2 w)
 generalize turn x = y at *
 go_enter Tryz.func168, Tryz.ntmps168
 go_wp2_with (go_at_call 58; refine (HT.out _).mono ?_; rintro e w' ⟨rfl, rfl⟩)
 go_ret
 exact ⟨rfl, rfl⟩
def FarL (B : Nat) (p : Option Addr) (n : Nat) (g : Nat) : Prop := g = B ∨ (0 < n ∧ ∃ off, p = some ⟨g, off, none⟩)
theorem farL_lt {w : World} {B : Nat} {p : Option Addr} {l : List Int} (hB : B < w.heap.size) (hI : IntsAt w p l) : ∀ g, FarL B p l.length g → g < w.heap.size := fun g h => by
 rcases h with rfl | ⟨h0, off, rfl⟩
 · exact hB
 · obtain ⟨b, o, e, hc⟩ := hI h0
   cases e
   exact World.block_lt_of_cell? _ _ (hc 0 h0)
theorem cell_block {w1 w2 : World} {a : Addr} {v : Value} (h : w1.cell? a = some v) (hb : w2.heap[a.block]? = w1.heap[a.block]?) : w2.cell? a = some v := by
 rw [World.cell?_of_block (w := w1) (a := a) hb]; exact h
theorem ints_block {w1 w2 : World} {p : Option Addr} {l : List Int} (h : IntsAt w1 p l) (hb : ∀ g, (0 < l.length ∧ ∃ off, p = some ⟨g, off, none⟩) → w2.heap[g]? = w1.heap[g]?) : IntsAt w2 p l := fun h0 => by
 obtain ⟨b, o, e, hc⟩ := h h0
 exact ⟨b, o, e, fun i hi => cell_block (hc i hi) (hb b ⟨h0, o, e⟩)⟩
theorem map_getD (l : List Int) (f : Int → Int) : (List.range l.length).map (fun i => f (l.getD i 0)) = l.map f := by
 apply List.ext_getElem
 · simp
 · intro i h1 h2
   simp at h1
   simp [List.getElem?_eq_getElem h1]
set_option maxHeartbeats 2000000 in
theorem turnedB_any (l : List Int) (p : Option Addr) (cap : Nat) (hl : ∀ x ∈ l, 0 ≤ x ∧ x ≤ 10000000) (hn : l.length ≤ 1000) (w : World) (hI : IntsAt w p l) :
   Calls Tryz.prog 142 #[.slice p l.length cap] w fun e w' => ∃ G, e = .returned (.slice (some ⟨G, 0, none⟩) l.length l.length) ∧ w.heap.size ≤ G ∧ IRow w' G (l.map turn) ∧ Below w.heap.size w w' := by
 have hB0 : Below w.heap.size w (w.alloc (.cells #[.slice p l.length cap] 25)) := bal (Below.refl _ _) _
 have hM := made_any 168 (.pointer (some ⟨w.heap.size, 0, none⟩)) (fun i => turn (l.getD i 0)) l.length w.heap.size hn (FarL w.heap.size p l.length)
   (fun _ wr => wr.cell? ⟨w.heap.size, 0, none⟩ = some (.slice p l.length cap) ∧ IntsAt wr p l) (w.alloc (.cells #[.slice p l.length cap] 25)) (by simp) (farL_lt (by simp) (hI.later hB0)) ⟨by simp [go_sem], hI.later hB0⟩
   (fun _ w1 w2 h hk => ⟨cell_block h.1 (hk _ (Or.inl rfl)), ints_block h.2 (fun g hg => hk g (Or.inr hg))⟩) enterB118
   (fun k hk wr _ h => (turned1_any l p cap k hk hl hn w.heap.size wr h.1 h.2).mono fun e w' ⟨h1, h2⟩ => by
     subst h2
     exact ⟨h1, h, Below.refl _ _, fun _ _ _ => rfl⟩)
 rw [map_getD l turn] at hM
 have HM := hide hM
 have HB0 := hide hB0
 clear hM hB0
 go_enter Tryz.func142, Tryz.ntmps142
 go_wp2_with fail
 refine HM.out.mono ?_
 rintro e w1 ⟨G, rfl, hG, hr, _, hb, _⟩
 have HR := hide hr
 have HB := hide (HB0.out.trans hb)
 have hG2 : w.heap.size ≤ G := by simp at hG; omega
 clear hr hb hG
 go_wp2
 go_ret
 exact ⟨G, rfl, hG2, HR.out, HB.out⟩
def bitsC (x : Int) (n : Nat) : List Int := (List.range n).map (fun i => x / 2 ^ i % 2)
set_option maxHeartbeats 2000000 in
theorem constant_any (x : Int) (n : Nat) (hx : 0 ≤ x) (hx2 : x ≤ 255) (hn : n ≤ 8) (w : World) :
   Calls Tryz.prog 92 #[.int .i64 x, .int .i64 n] w fun e w' => ∃ G, e = .returned (.slice (some ⟨G, 0, none⟩) n n) ∧ w.heap.size ≤ G ∧ IRow w' G (bitsC x n) ∧ Below w.heap.size w w' := by
 have hB0 : Below w.heap.size w (w.alloc (.cells #[.int .i64 x] 3)) := bal (Below.refl _ _) _
 have hM := made_any 122 (.pointer (some ⟨w.heap.size, 0, none⟩)) (fun i => x / 2 ^ i % 2) n w.heap.size (by omega) (fun g => g = w.heap.size)
   (fun _ wr => wr.cell? ⟨w.heap.size, 0, none⟩ = some (.int .i64 x)) (w.alloc (.cells #[.int .i64 x] 3)) (by simp) (fun g h => by subst h; simp) (by simp [go_sem])
   (fun _ w1 w2 h hk => cell_block h (hk _ rfl)) enterB83
   (fun k hk wr _ h => (const1_any x k hx hx2 (by omega) w.heap.size wr h).mono fun e w' ⟨h1, h2⟩ => by
     subst h2
     exact ⟨h1, h, Below.refl _ _, fun _ _ _ => rfl⟩)
 have HM := hide hM
 have HB0 := hide hB0
 clear hM hB0
 go_enter Tryz.func92, Tryz.ntmps92
 go_wp2_with fail
 refine HM.out.mono ?_
 rintro e w1 ⟨G, rfl, hG, hr, _, hb, _⟩
 have HR := hide hr
 have HB := hide (HB0.out.trans hb)
 have hG2 : w.heap.size ≤ G := by simp at hG; omega
 clear hr hb hG
 go_wp2
 go_ret
 exact ⟨G, rfl, hG2, HR.out, HB.out⟩
theorem enterB58 (args : Array Value) (w : World) : (callFunc 95 args).run Tryz.prog w = .ok (.enter 95 args) w := by kernel_rfl
theorem start1_any (i : Int) (x : Nat) (hx : x ≤ 1000) (B : Nat) (w : World) (c0 : w.cell? ⟨B, 0, none⟩ = some (.int .i64 x)) (f0 : w.frozen? ⟨B, 0, none⟩ = false) :
   Calls Tryz.prog 95 #[.int .i64 i, .pointer (some ⟨B, 0, none⟩)] w fun e w' => e = .returned (.int .i64 (2 * ((x : Int) + 1))) ∧ w' = w.setCell ⟨B, 0, none⟩ (.int .i64 ((x : Int) + 1)) := by
 have c1 := World.cell?_setCell_same w ⟨B, 0, none⟩ (.int .i64 ((x : Int) + 1)) c0
 go_enter Tryz.func95, Tryz.ntmps95
 go_wp2_with (go_at_call 81; refine (literal_any _ (by omega) (by omega) _).mono ?_; rintro e w' ⟨rfl, rfl⟩)
 go_ret
 exact ⟨rfl, rfl⟩
end Go.Proofs.YtmambfdimeeijaaGreatDoor
