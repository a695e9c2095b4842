/- Steps, unrolled: the Ands of a step. -/
import Derived.Test.YtmambfdimeeijaaGreatDoorKcM
namespace Go.Proofs.YtmambfdimeeijaaGreatDoor
open Go.RowKit Go.Maps Go.WideMaps
set_option maxRecDepth 100000
def pairsT (f : Int) (t : Nat) (ps : List (Int × Int)) : List (Int × Int) := ps.map fun p => (atL f t p.1, atL f t p.2)
def andsT (C : Ci) (t k : Nat) : List (List Int) := andsC (t * C.f + C.ins) (pairsT C.f t C.ps) k
theorem andsT_succ (C : Ci) (t k : Nat) (h : k < C.ps.length) : andsT C t (k + 1) = andsT C t k ++ andC (t * C.f + 1 + C.ins + k) (atL C.f t C.ps[k].1) (atL C.f t C.ps[k].2) := by
 unfold andsT
 rw [andsC_succ (by simpa [pairsT] using h)]
 simp only [pairsT, List.getElem_map]
 rw [show 1 + ((t : Int) * C.f + C.ins) + (k : Int) = t * C.f + 1 + C.ins + k by omega]
theorem andsT_len (C : Ci) (t k : Nat) (h : k ≤ C.ps.length) : (andsT C t k).length = 3 * k := andsC_len _ _ _ (by simpa [pairsT] using h)
structure CO (w : World) (C : Ci) (last : Nat) : Prop where
 at' : CirAt w C.p C.ps C.i C.n C.b C.h
 i0 : 0 ≤ C.ins
 i1 : C.ins ≤ 1000
 a0 : 0 ≤ C.a
 s0 : 0 ≤ C.s
 sm : C.a + C.s = C.ins
 il : (C.i.ns.length : Int) = C.s
 nl : (C.n.ns.length : Int) = C.s
 pr : ∀ k (h : k < C.ps.length), standB C.ps[k].1 C.ps[k].2 (1 + C.ins + k) = true
 ni : ∀ x ∈ C.i.ns, x = -1 ∨ 0 ≤ x ∧ x < 2 * (1 + C.f)
 nn : ∀ x ∈ C.n.ns, 0 ≤ x ∧ x < 2 * (1 + C.f)
 nb : ∀ x ∈ C.b.ns, 0 ≤ x ∧ x < 2 * (1 + C.f)
 nh : ∀ x ∈ C.h.ns, 0 ≤ x ∧ x < 2 * (1 + C.f)
 la : last ≤ 40
 bl : C.b.ns.length ≤ 2000000
 hl : C.h.ns.length ≤ 2000000
 p1 : C.ps.length ≤ 1000001
structure COk (w : World) (C : Ci) (last : Nat) : Prop extends CO w C last where
 vs : ((last : Int) + 1) * C.f ≤ 200000
theorem CO.lf {w : World} {C : Ci} {last : Nat} (h : CO w C last) : 0 ≤ (last : Int) * C.f ∧ (last : Int) * C.f + C.f ≤ 100000000 := by
 have h1 : 0 ≤ C.f ∧ C.f ≤ 1001001 := by unfold Ci.f; have := h.i0; have := h.i1; have := h.p1; omega
 have h2 : (last : Int) * C.f ≤ 40 * 1001001 := Int.mul_le_mul (by have := h.la; omega) h1.2 h1.1 (by omega)
 exact ⟨Int.mul_nonneg (by omega) h1.1, by omega⟩
theorem COk.f0 {w : World} {C : Ci} {last : Nat} (h : COk w C last) : 0 ≤ C.f ∧ C.f ≤ 200000 := by
 have h1 : 0 ≤ C.f := by unfold Ci.f; have := h.i0; omega
 have h2 : 1 * C.f ≤ ((last : Int) + 1) * C.f := Int.mul_le_mul_of_nonneg_right (by omega) h1
 have := h.vs
 omega
theorem COk.tf {w : World} {C : Ci} {last : Nat} (h : COk w C last) {t : Nat} (ht : t ≤ last) : 0 ≤ (t : Int) * C.f ∧ (t : Int) * C.f + C.f ≤ 200000 := by
 have h1 := h.f0.1
 have h2 : ((t : Int) + 1) * C.f ≤ ((last : Int) + 1) * C.f := Int.mul_le_mul_of_nonneg_right (by omega) h1
 have h3 : ((t : Int) + 1) * C.f = t * C.f + C.f := by rw [Int.add_mul]; omega
 have h4 : 0 ≤ (t : Int) * C.f := Int.mul_nonneg (by omega) h1
 have := h.vs
 omega
theorem COk.pl {w : World} {C : Ci} {last : Nat} (h : COk w C last) : C.ps.length ≤ 200000 := by
 have h1 := h.f0.2
 have h2 := h.i0
 unfold Ci.f at h1
 omega
theorem atL_bd {f x : Int} {t : Nat} (h0 : 0 ≤ (t : Int) * f) (h1 : (t : Int) * f + f ≤ 200000) (hx : 0 ≤ x) (hx2 : x < 2 * (1 + f)) : 0 ≤ atL f t x ∧ atL f t x ≤ 400001 := by
 unfold atL
 split <;> omega
theorem Cm.setV {w : World} {base M : Nat} {v : Value} {vars : Int} {rs : List Row} (h : Cm w base M v vars rs) (x : Int) : Cm (w.setCell ⟨M, 0, none⟩ (.int .i64 x)) base M v x rs :=
 ⟨World.cell?_setCell_same w _ _ h.c0, by rw [World.cell?_setCell_other w _ _ _ (by simp)]; exact h.c1, by rw [World.frozen?_setCell]; exact h.f0, by rw [World.frozen?_setCell]; exact h.f1,
   owns_set h.row h.nv, fun r hr => (h.inn r hr).set _ _ (fun a ha => (h.far r hr a ha).1), h.hM, h.nv, fun r hr a ha => by
     obtain ⟨h1, h2, h3, h4⟩ := h.far r hr a ha
     exact ⟨h1, h2, by simpa using h3, h4⟩⟩
theorem Kp.setV {w : World} {M : Nat} {v : Value} (u : Value) : Kp M w v (w.setCell ⟨M, 0, none⟩ u) v :=
 ⟨by simp, fun q x hq h0 _ h2 => ⟨by rw [World.cell?_setCell_other w _ _ _ (fun e => h0 e.symm)]; exact hq, h2⟩, fun g _ hm hv => ⟨Below.heap_setCell _ _ _ _ hm, hv⟩⟩
theorem Un.setV {w0 w : World} {M : Nat} {v : Value} {vars : Int} {rs : List Row} {C : Ci} {last : Nat} (h : Un w0 w M v vars rs C last) (x : Int) : Un w0 (w.setCell ⟨M, 0, none⟩ (.int .i64 x)) M v x rs C last :=
 h.next (h.cm.setV x) ((Below.refl _ w).setCell h.cm.hM _) (Kp.setV _)
theorem Un.sz {w0 w : World} {M : Nat} {v : Value} {vars : Int} {rs : List Row} {C : Ci} {last : Nat} (h : Un w0 w M v vars rs C last) : w0.heap.size ≤ w.heap.size := h.bl.size
def loadV : Op := .load 3 (.tmp 49)
theorem loadV_fold : Op.load 3 (.tmp 49) = loadV := rfl
theorem loadV_is : loadV = Op.load 3 (.tmp 49) := rfl
attribute [local go_sem] loadV_is
set_option maxHeartbeats 8000000 in
theorem andsStep_any (w0 : World) (M : Nat) (C : Ci) (last : Nat) (hC : COk w0 C last) (U G : Nat) (t : Nat) (ht : t ≤ last) (w : World) (v : Value) (vars : Int) (rs : List Row)
   (hU : Un w0 w M v vars rs C last) (hB : Bxs w v M [(⟨U, 0, none⟩, .pointer (some ⟨M, 0, none⟩)), (⟨G, 0, none⟩, .int .i64 C.ins), (⟨G, 1, none⟩, .slice C.p C.ps.length C.cap)]) (hl : rs.length + (andsT C t C.ps.length).length ≤ 800000) (hv0 : 0 ≤ vars) (hv : vars + C.f ≤ 200000) :
   Calls Tryz.prog 42 #[.int .i64 t, .pointer (some ⟨U, 0, none⟩), .pointer (some ⟨G, 0, none⟩)] w (MkOut w0 w M v (vars + C.f) rs (andsT C t C.ps.length) C last) := by
 have ht1 := hC.tf ht
 have hf := hC.f0
 have hpl := hC.pl
 have HB := hide hB
 have HU := hide hU
 have HC := hide hC
 have HL : Hid (∀ k, k ≤ C.ps.length → (andsT C t k).length = 3 * k) := fun k hk => andsT_len C t k hk
 have HSU : Hid (∀ k (h : k < C.ps.length), andsT C t (k + 1) = andsT C t k ++ andC (t * C.f + 1 + C.ins + k) (atL C.f t C.ps[k].1) (atL C.f t C.ps[k].2)) := fun k h => andsT_succ C t k h
 have hlz := HL.out C.ps.length (Nat.le_refl _)
 rw [hlz] at hl
 have b0 := (hB _ _ (.head _)).1
 have g0 := (hB _ _ (.tail _ (.head _))).1
 have g1 := (hB _ _ (.tail _ (.tail _ (.head _)))).1
 obtain ⟨u2, u3, u4, u5, u6, u7, u8, u9, _⟩ := hU.un
 have HST := hide (fun w => stride_any C.ins C.p C.ps.length C.cap hC.i0 hC.i1 (by omega) (.int .i64 C.a) (.int .i64 C.s) C.i.v C.n.v C.b.v C.h.v w)
 have hi0 := hC.i0
 have hi1 := hC.i1
 have hfe : C.f = C.ins + C.ps.length := rfl
 generalize hZ : andsT C t C.ps.length = Z at *
 clear hB hU hC hlz
 have hbd : Below w.heap.size w w.drew := (Below.refl _ w).drew
 have wm := wrap_id (x := (t : Int) * (C.ins + (C.ps.length : Int))) (by rw [← hfe]; omega) (by rw [← hfe]; omega)
 have wm1 := wrap_id (x := (t : Int) * (C.ins + (C.ps.length : Int)) + 1) (by rw [← hfe]; omega) (by rw [← hfe]; omega)
 have wm2 := wrap_id (x := (t : Int) * (C.ins + (C.ps.length : Int)) + 1 + C.ins) (by rw [← hfe]; omega) (by rw [← hfe]; omega)
 simp only [Sl.v] at u6 u7 u8 u9 HST
 obtain ⟨pp, HPP⟩ : ∃ pp, Hid (C.p = pp) := ⟨_, rfl⟩
 rw [HPP.out] at u3 g1 HST
 go_enter Tryz.func42, Tryz.ntmps42
 go_wp2
 go_region_held3 (fun w' => w'.cell? ⟨U, 0, none⟩ = some (.pointer (some ⟨M, 0, none⟩)) ∧ w'.cell? ⟨G, 0, none⟩ = some (.int .i64 C.ins) ∧ w'.cell? ⟨M, 2, none⟩ = some (.int .i64 C.ins) ∧ w'.cell? ⟨M, 3, none⟩ = some (.slice pp C.ps.length C.cap) ∧ w'.cell? ⟨M, 4, none⟩ = some (.int .i64 C.a) ∧ w'.cell? ⟨M, 5, none⟩ = some (.int .i64 C.s) ∧ w'.cell? ⟨M, 6, none⟩ = some (.slice C.i.at' C.i.ns.length C.i.cap) ∧ w'.cell? ⟨M, 7, none⟩ = some (.slice C.n.at' C.n.ns.length C.n.cap) ∧ w'.cell? ⟨M, 8, none⟩ = some (.slice C.b.at' C.b.ns.length C.b.cap) ∧ w'.cell? ⟨M, 9, none⟩ = some (.slice C.h.at' C.h.ns.length C.h.cap))
   (first | exact ⟨cell_later hb2 b0, cell_later hb2 g0, cell_later hb2 u2, cell_later hb2 u3, cell_later hb2 u4, cell_later hb2 u5, cell_later hb2 u6, cell_later hb2 u7, cell_later hb2 u8, cell_later hb2 u9⟩ | exact ⟨cell_later hbd b0, cell_later hbd g0, cell_later hbd u2, cell_later hbd u3, cell_later hbd u4, cell_later hbd u5, cell_later hbd u6, cell_later hbd u7, cell_later hbd u8, cell_later hbd u9⟩ | go_keep)
   ((go_at_call 43; refine (HST.out _).mono ?_; rintro e w2 ⟨rfl, hb2'⟩; have hb2 : Below w.heap.size w w2 := hbd.trans (show Below w.heap.size w.drew w2 from hb2')))
 rename_i hHeld
 have hU2 := HU.out.later hb2
 have hB2 := HB.out.later hb2
 have hk2 : Kp M w v w2 v := Kp.later hb2
 have g1' := cell_later hb2 g1
 have HU2 := hide hU2
 have HB2 := hide hB2
 have HK2 := hide hk2
 clear hHeld hU2 hB2 hk2 hb2 hb2' u2 u3 u4 u5 u6 u7 u8 u9 b0 g0 g1 HU HB hbd
 have HTF : Hid ((t : Int) * C.f = (t : Int) * (C.ins + (C.ps.length : Int))) := rfl
 rw [HTF.out] at ht1
 generalize hF : (t : Int) * (C.ins + (C.ps.length : Int)) = F at *
 go_wp2
 go_loopw [21] (fun i wr => ∃ k : Nat, k ≤ C.ps.length ∧ i = .int .i64 k ∧ Hid (∃ v' rs', numsOf rs' = numsOf rs ++ andsT C t k ∧ Un w0 wr M v' vars rs' C last ∧ Kp M w v wr v' ∧ Kp M w2 v wr v')) (fun i _ => C.ps.length - (intOf i).toNat)
 case atStart => exact ⟨0, Nat.zero_le _, rfl, v, rs, by simp [andsT, andsC], HU2.out, HK2.out, Kp.refl _ _ _⟩
 case round =>
   obtain ⟨k, hk, rfl, HR⟩ := hrel
   obtain ⟨v1, rs1, hn1, hU1, hk1, hk1'⟩ := HR.out
   by_cases hlt : k < C.ps.length
   · have hki : (k : Int) < (C.ps.length : Int) := by omega
     have hB1 := HB2.out.kp hk1'
     have b1 := (hB1 _ _ (.head _)).1
     have hle := HL.out k (by omega)
     have hsd := HC.out.pr k hlt
     obtain ⟨s1, s2, s3, s4⟩ := stand_two hsd
     obtain ⟨gb, goff, hge, hgc⟩ := (HC.out.at'.g.later hU1.bl) (by omega)
     obtain ⟨gk0, gk1⟩ := hgc k hlt
     obtain rfl : pp = some ⟨gb, goff, none⟩ := HPP.out.symm.trans hge
     clear hge
     have HSK := hide (HSU.out k hlt)
     have hln := numsOf_lenE hn1
     rw [List.length_append, numsOf_len, hle] at hln
     generalize hP1 : C.ps[k].1 = a at *
     generalize hP2 : C.ps[k].2 = b at *
     have hat1 := atL_bd (f := C.f) (t := t) (x := a) (by rw [HTF.out]; omega) (by rw [HTF.out]; omega) (by omega) (by rw [hfe]; omega)
     have hat2 := atL_bd (f := C.f) (t := t) (x := b) (by rw [HTF.out]; omega) (by rw [HTF.out]; omega) (by omega) (by rw [hfe]; omega)
     have hbA0 : Below wr.heap.size wr (wr.alloc (.cells #[.int .i64 a, .int .i64 b] 71)) := bal (Below.refl _ _) _
     have hUA := hU1.later hbA0
     have hM := World.block_lt_of_cell? _ _ hU1.cm.c0
     simp only at hM
     have hvn : v1.ownBlock ≠ some wr.heap.size := fun e => by have := (hU1.cm.row.lt _ e).2; omega
     have hBA : Bxs (wr.alloc (.cells #[.int .i64 a, .int .i64 b] 71)) v1 M [(⟨U, 0, none⟩, .pointer (some ⟨M, 0, none⟩)), (⟨wr.heap.size, 0, none⟩, .int .i64 a), (⟨wr.heap.size, 1, none⟩, .int .i64 b)] := fun q x hq => by
       simp only [List.mem_cons, List.mem_nil_iff, or_false, Prod.mk.injEq] at hq
       rcases hq with ⟨rfl, rfl⟩ | ⟨rfl, rfl⟩ | ⟨rfl, rfl⟩
       · exact (hB1.later hbA0) _ _ (.head _)
       · exact ⟨by simp [go_sem], by simp; omega, hvn⟩
       · exact ⟨by simp [go_sem], by simp; omega, hvn⟩
     have HKA := hide (Kp.later (M := M) (v := v1) hbA0)
     have HN1 := hide hn1
     have HK1 := hide hk1
     have HK1' := hide hk1'
     have wk := wrap_id (x := F + 1 + C.ins + (k : Int)) (by omega) (by omega)
     clear hgc hn1 hk1 hk1' HR hsd hB1 hU1 hvn hM
     go_wp2
     generalize wr.alloc (.cells #[.int .i64 a, .int .i64 b] 71) = w3 at *
     have HAT := hide (fun x (hx : x = a ∨ x = b) w' (hb : Below w3.heap.size w3 w') => at_any M C last t x (by omega) hi1 (by omega) (by omega) (by omega) (by rw [HTF.out]; omega) (by rw [HTF.out]; omega) w' (hUA.un.later hb))
     have HAN := hide (fun w' (hb : Below w3.heap.size w3 w') => andM_any w0.heap.size M v1 vars rs1 (by omega) (F + 1 + C.ins + k) (atL C.f t a) (atL C.f t b) (by omega) (by omega) (by omega) (by omega) (by omega) (by omega) w' (by have := hUA.sz; have := hb.size; omega) (hUA.cm.below hb))
     have hbd : Below w3.heap.size w3 w3.drew := (Below.refl _ w3).drew
     have x0 := (hBA _ _ (.head _)).1
     have x1 := (hBA _ _ (.tail _ (.head _))).1
     have x2 := (hBA _ _ (.tail _ (.tail _ (.head _)))).1
     have HATa := hide (fun w' (hb : Below w3.heap.size w3 w') => HAT.out a (Or.inl rfl) w' hb)
     have HATb := hide (fun w' (hb : Below w3.heap.size w3 w') => HAT.out b (Or.inr rfl) w' hb)
     have HBA := hide hBA
     have HUA := hide hUA
     generalize wr.heap.size = PB at *
     clear hBA hUA hle hln hat1 hat2 HAT
     generalize atL C.f t a = ya at *
     generalize atL C.f t b = yb at *
     go_region_held3 (fun w' => w'.cell? ⟨U, 0, none⟩ = some (.pointer (some ⟨M, 0, none⟩)) ∧ w'.cell? ⟨PB, 0, none⟩ = some (.int .i64 a) ∧ w'.cell? ⟨PB, 1, none⟩ = some (.int .i64 b))
       (first | exact ⟨(hB4 _ _ (.head _)).1, (hB4 _ _ (.tail _ (.head _))).1, (hB4 _ _ (.tail _ (.tail _ (.head _)))).1⟩ | exact ⟨cell_later hbB x0, cell_later hbB x1, cell_later hbB x2⟩ | exact ⟨cell_later hbA x0, cell_later hbA x1, cell_later hbA x2⟩ | exact ⟨cell_later hbd x0, cell_later hbd x1, cell_later hbd x2⟩ | go_keep)
       (first
         | (go_at_call 44; have hq := hbB; refine (HAN.out _ hbB).mono ?_; rintro e w4 ⟨rfl, v4, rs4, hn4, hc4, hb4, hk4'⟩; have hk4 := (Kp.later (M := M) (v := v1) hbB).trans hk4'; have hB4 := HBA.out.kp hk4)
         | (go_at_call 45; have hq := hbA; refine (HATb.out _ hbA).mono ?_; rintro e wB ⟨rfl, hb⟩; have hbB := bthen hbA hb)
         | (go_at_call 45; refine (HATa.out _ hbd).mono ?_; rintro e wA ⟨rfl, hb⟩; have hbA := bthen hbd hb))
     all_goals
       rename_i hHeld
       have HR4 := hide (show ∃ v' rs', numsOf rs' = numsOf rs ++ andsT C t (k + 1) ∧ Un w0 w4 M v' vars rs' C last ∧ Kp M w v w4 v' ∧ Kp M w2 v w4 v' from ⟨v4, rs4, by rw [hn4, HN1.out, HSK.out, List.append_assoc, HTF.out], HUA.out.next hc4 ((hbB.mono HUA.out.sz).trans hb4) hk4, (HK1.out.trans HKA.out).trans hk4, (HK1'.out.trans HKA.out).trans hk4⟩)
       clear hHeld hn4 hc4 hb4 hk4 hk4' hbA hbB hB4 HAN HATa HATb HSK HBA HUA HKA HK1 HK1' HN1 x0 x1 x2
       go_wp2
       go_roundw
       case rel => exact ⟨k + 1, by omega, by go_num, HR4⟩
       case measure => simp [intOf]; omega
   · obtain rfl : k = C.ps.length := by omega
     have hB1 := HB2.out.kp hk1'
     have b1 := (hB1 _ _ (.head _)).1
     obtain ⟨u2, u3, u4, u5, u6, u7, u8, u9, _⟩ := hU1.un
     simp only [Sl.v] at u6 u7 u8 u9
     rw [HPP.out] at u3
     have c0 := hU1.cm.c0
     have f0 := hU1.cm.f0
     have hM := World.block_lt_of_cell? _ _ c0
     simp only at hM
     have hUM : U ≠ M := (hB1 _ _ (.head _)).2.1
     have HN1 := hide hn1
     have HU1 := hide hU1
     have HK1 := hide hk1
     have wv := wrap_id (x := vars + (C.ins + (C.ps.length : Int))) (by omega) (by omega)
     clear hn1 hU1 hk1 hk1' HR hB1
     have hbd : Below wr.heap.size wr wr.drew := (Below.refl _ wr).drew
     go_wp2
     simp only [loadV_fold]
     go_region_held3 (fun w' => w'.cell? ⟨U, 0, none⟩ = some (.pointer (some ⟨M, 0, none⟩)) ∧ w'.cell? ⟨M, 2, none⟩ = some (.int .i64 C.ins) ∧ w'.cell? ⟨M, 3, none⟩ = some (.slice pp C.ps.length C.cap) ∧ w'.cell? ⟨M, 4, none⟩ = some (.int .i64 C.a) ∧ w'.cell? ⟨M, 5, none⟩ = some (.int .i64 C.s) ∧ w'.cell? ⟨M, 6, none⟩ = some (.slice C.i.at' C.i.ns.length C.i.cap) ∧ w'.cell? ⟨M, 7, none⟩ = some (.slice C.n.at' C.n.ns.length C.n.cap) ∧ w'.cell? ⟨M, 8, none⟩ = some (.slice C.b.at' C.b.ns.length C.b.cap) ∧ w'.cell? ⟨M, 9, none⟩ = some (.slice C.h.at' C.h.ns.length C.h.cap))
       (first | exact ⟨cell_later hb2 b1, cell_later hb2 u2, cell_later hb2 u3, cell_later hb2 u4, cell_later hb2 u5, cell_later hb2 u6, cell_later hb2 u7, cell_later hb2 u8, cell_later hb2 u9⟩ | exact ⟨cell_set_far (cell_later hb2 b1) hUM, (by rw [World.cell?_setCell_other _ _ _ _ (by simp)]; exact cell_later hb2 u2), (by rw [World.cell?_setCell_other _ _ _ _ (by simp)]; exact cell_later hb2 u3), (by rw [World.cell?_setCell_other _ _ _ _ (by simp)]; exact cell_later hb2 u4), (by rw [World.cell?_setCell_other _ _ _ _ (by simp)]; exact cell_later hb2 u5), (by rw [World.cell?_setCell_other _ _ _ _ (by simp)]; exact cell_later hb2 u6), (by rw [World.cell?_setCell_other _ _ _ _ (by simp)]; exact cell_later hb2 u7), (by rw [World.cell?_setCell_other _ _ _ _ (by simp)]; exact cell_later hb2 u8), (by rw [World.cell?_setCell_other _ _ _ _ (by simp)]; exact cell_later hb2 u9)⟩ | exact ⟨cell_later hbd b1, cell_later hbd u2, cell_later hbd u3, cell_later hbd u4, cell_later hbd u5, cell_later hbd u6, cell_later hbd u7, cell_later hbd u8, cell_later hbd u9⟩ | go_keep)
       ((go_at_call 43; refine (HST.out _).mono ?_; rintro e w2 ⟨rfl, hb2'⟩; have hb2 : Below wr.heap.size wr w2 := hbd.trans (show Below wr.heap.size wr.drew w2 from hb2'); have c02 := cell_later hb2 c0; have f02 := (hb2.frozen hM).trans f0))
     all_goals
       have HEND : Hid (MkOut w0 w M v (vars + C.f) rs Z C last (.returned (.tuple #[])) (w2.setCell ⟨M, 0, none⟩ (.int .i64 (vars + (C.ins + (C.ps.length : Int)))))) :=
         ⟨rfl, v1, rs1, by rw [HN1.out, hZ], (HU1.out.later hb2).setV _, (HK1.out.trans (Kp.later hb2)).trans (Kp.setV _)⟩
       go_end0
       exact HEND.out
end Go.Proofs.YtmambfdimeeijaaGreatDoor

namespace Go.Proofs.YtmambfdimeeijaaGreatDoor
open Go.RowKit Go.Maps Go.WideMaps
set_option maxRecDepth 100000
def bondC (C : Ci) (t i : Nat) : List (List Int) := sameC (stL C.f C.a (t + 1) i) (atL C.f t (C.n.ns.getD i 0))
def bondsT (C : Ci) (t : Nat) : List (List Int) := stepsL (bondC C t) C.n.ns.length
def holdC (C : Ci) (t i : Nat) : List (List Int) := rootC (atL C.f t (C.h.ns.getD i 0))
def holdsT (C : Ci) (t : Nat) : List (List Int) := stepsL (holdC C t) C.h.ns.length
def beginC (C : Ci) (i : Nat) : List (List Int) := if C.i.ns.getD i 0 = -1 then [] else sameC (stL C.f C.a 0 i) (C.i.ns.getD i 0)
def beginsT (C : Ci) : List (List Int) := stepsL (beginC C) C.i.ns.length
theorem stL_bd {f a : Int} {t i : Nat} (h0 : 0 ≤ (t : Int) * f) (h1 : (t : Int) * f + f ≤ 200000) (ha : 0 ≤ a) (hi : a + i < f) : 2 ≤ stL f a t i ∧ stL f a t i ≤ 400001 := by
 unfold stL atL
 rw [if_neg (by omega)]
 omega
theorem getD_mem' {l : List Int} {k : Nat} (h : k < l.length) : l.getD k 0 ∈ l := by
 rw [List.getD_eq_getElem?_getD, List.getElem?_eq_getElem h]
 exact List.getElem_mem h
set_option maxHeartbeats 8000000 in
theorem bondsStep_any (w0 : World) (M : Nat) (C : Ci) (last : Nat) (hC : COk w0 C last) (U G : Nat) (t : Nat) (ht : t < last) (w : World) (v : Value) (vars : Int) (rs : List Row)
   (hU : Un w0 w M v vars rs C last) (hB : Bxs w v M [(⟨U, 0, none⟩, .pointer (some ⟨M, 0, none⟩)), (⟨G, 0, none⟩, C.n.v)]) (hl : rs.length + (bondsT C t).length ≤ 800000) :
   Calls Tryz.prog 47 #[.int .i64 t, .pointer (some ⟨G, 0, none⟩), .pointer (some ⟨U, 0, none⟩)] w (MkOut w0 w M v (vars + 0) rs (bondsT C t) C last) := by
 have ht1 := hC.tf (show t ≤ last by omega)
 have ht2 := hC.tf (show t + 1 ≤ last by omega)
 have hf := hC.f0
 have hpl := hC.pl
 have hla := hC.la
 have hnl := hC.nl
 have hsm := hC.sm
 have hi1 := hC.i1
 have ha0 := hC.a0
 have hfe : C.f = C.ins + C.ps.length := rfl
 have HB := hide hB
 have HU := hide hU
 have HC := hide hC
 have HL : Hid (∀ k, k ≤ C.n.ns.length → (stepsL (bondC C t) k).length ≤ (bondsT C t).length) := fun k hk => stepsL_mono _ hk
 have HSU : Hid (∀ k, stepsL (bondC C t) (k + 1) = stepsL (bondC C t) k ++ sameC (stL C.f C.a (t + 1) k) (atL C.f t (C.n.ns.getD k 0))) := fun k => stepsL_succ _ k
 have g0 := (hB _ _ (.tail _ (.head _))).1
 have hZ : Hid (bondsT C t = stepsL (bondC C t) C.n.ns.length) := rfl
 generalize bondsT C t = Z at *
 have wt := wrap_id (x := (t : Int) + 1) (by omega) (by omega)
 clear hB hU hC
 simp only [Sl.v] at g0
 obtain ⟨pp, HPP⟩ : ∃ pp, Hid (C.n.at' = pp) := ⟨_, rfl⟩
 rw [HPP.out] at g0
 go_enter Tryz.func47, Tryz.ntmps47
 go_wp2
 go_loopw [8] (fun i wr => ∃ k : Nat, k ≤ C.n.ns.length ∧ i = .int .i64 k ∧ Hid (∃ v' rs', numsOf rs' = numsOf rs ++ stepsL (bondC C t) k ∧ Un w0 wr M v' vars rs' C last ∧ Kp M w v wr v')) (fun i _ => C.n.ns.length - (intOf i).toNat)
 case atStart => exact ⟨0, Nat.zero_le _, rfl, v, rs, by simp [stepsL], HU.out, Kp.refl _ _ _⟩
 case round =>
   obtain ⟨k, hk, rfl, HR⟩ := hrel
   obtain ⟨v1, rs1, hn1, hU1, hk1⟩ := HR.out
   by_cases hlt : k < C.n.ns.length
   · have hki : (k : Int) < (C.n.ns.length : Int) := by omega
     have b1 := ((HB.out.kp hk1) _ _ (.head _)).1
     have hle := HL.out (k + 1) (by omega)
     have hbn := HC.out.nn _ (getD_mem' hlt)
     obtain ⟨gb, goff, hge, hgc⟩ := (HC.out.at'.n.later hU1.bl) (by omega)
     have gk := hgc k hlt
     obtain rfl : pp = some ⟨gb, goff, none⟩ := HPP.out.symm.trans hge
     clear hge
     rw [show C.n.ns[k] = C.n.ns.getD k 0 by simp [List.getD, List.getElem?_eq_getElem hlt]] at gk
     have HSK := hide (HSU.out k)
     have hln := numsOf_lenE hn1
     rw [List.length_append, numsOf_len] at hln
     rw [HSK.out, List.length_append] at hle
     have hst := stL_bd (f := C.f) (a := C.a) (t := t + 1) (i := k) ht2.1 ht2.2 ha0 (by omega)
     have hat := atL_bd (x := C.n.ns.getD k 0) ht1.1 ht1.2 hbn.1 hbn.2
     have HAT := hide (fun w' (hb : Below wr.heap.size wr w') => at_any M C last t (C.n.ns.getD k 0) (by omega) hi1 (by omega) hbn.1 (by omega) ht1.1 (by omega) w' (hU1.un.later hb))
     have HSA := hide (fun w' (hb : Below wr.heap.size wr w') => state_any M C last (t + 1) k (by omega) hi1 (by omega) ha0 (by omega) (by omega) ht2.1 (by omega) w' (hU1.un.later hb))
     have HSM := hide (fun w' (hb : Below wr.heap.size wr w') => sameM_any w0.heap.size M v1 vars rs1 (by omega) (stL C.f C.a (t + 1) k) (atL C.f t (C.n.ns.getD k 0)) (by omega) (by omega) (by omega) (by omega) w' (by have := hU1.sz; have := hb.size; omega) (hU1.cm.below hb))
     have HN1 := hide hn1
     have HU1 := hide hU1
     have HK1 := hide hk1
     have hbd : Below wr.heap.size wr wr.drew := (Below.refl _ wr).drew
     have hxU : ∀ w' v', Kp M wr v1 w' v' → w'.cell? ⟨U, 0, none⟩ = some (.pointer (some ⟨M, 0, none⟩)) := fun w' v' hk => (((HB.out.kp hk1).kp hk) _ _ (.head _)).1
     have HXU := hide hxU
     rw [show ((t + 1 : Nat) : Int) = (t : Int) + 1 by omega] at HSA
     generalize stL C.f C.a (t + 1) k = x at *
     generalize atL C.f t (C.n.ns.getD k 0) = y at *
     generalize C.n.ns.getD k 0 = z at *
     clear hgc hxU hn1 hU1 hk1 HR hst hat hbn hle hln
     go_wp2
     go_region_held3 (fun w' => w'.cell? ⟨U, 0, none⟩ = some (.pointer (some ⟨M, 0, none⟩)))
       (first | exact HXU.out _ _ hk4 | exact cell_later hbB b1 | exact cell_later hbA b1 | exact cell_later hbd b1 | go_keep)
       (first
         | (go_at_call 48; have hq := hbB; refine (HSM.out _ hbB).mono ?_; rintro e w4 ⟨rfl, v4, rs4, hn4, hc4, hb4, hk4'⟩; have hk4 := (Kp.later (M := M) (v := v1) hbB).trans hk4')
         | (go_at_call 49; have hq := hbA; refine (HSA.out _ hbA).mono ?_; rintro e wB ⟨rfl, hb⟩; have hbB := bthen hbA hb)
         | (go_at_call 45; have hq := hbA; refine (HAT.out _ hbA).mono ?_; rintro e wB ⟨rfl, hb⟩; have hbB := bthen hbA hb)
         | (go_at_call 49; refine (HSA.out _ hbd).mono ?_; rintro e wA ⟨rfl, hb⟩; have hbA := bthen hbd hb)
         | (go_at_call 45; refine (HAT.out _ hbd).mono ?_; rintro e wA ⟨rfl, hb⟩; have hbA := bthen hbd hb))
     all_goals
       rename_i hHeld
       have HR4 := hide (show ∃ v' rs', numsOf rs' = numsOf rs ++ stepsL (bondC C t) (k + 1) ∧ Un w0 w4 M v' vars rs' C last ∧ Kp M w v w4 v' from ⟨v4, rs4, by rw [hn4, HN1.out, HSK.out, List.append_assoc], HU1.out.next hc4 ((hbB.mono HU1.out.sz).trans hb4) hk4, HK1.out.trans hk4⟩)
       clear hHeld hn4 hc4 hb4 hk4 hk4' hbA hbB HSM HSA HAT HSK
       go_wp2
       go_roundw
       case rel => exact ⟨k + 1, by omega, by go_num, HR4⟩
       case measure => simp [intOf]; omega
   · obtain rfl : k = C.n.ns.length := by omega
     have HE := hide (show MkOut w0 w M v (vars + 0) rs Z C last (.returned (.tuple #[])) wr from ⟨rfl, v1, rs1, by rw [hn1, hZ.out], by simpa using hU1, hk1⟩)
     clear hn1 hU1 hk1
     go_wp2
     go_end0
     exact HE.out
end Go.Proofs.YtmambfdimeeijaaGreatDoor

namespace Go.Proofs.YtmambfdimeeijaaGreatDoor
open Go.RowKit Go.Maps Go.WideMaps
set_option maxRecDepth 100000
set_option maxHeartbeats 8000000 in
theorem holdsStep_any (w0 : World) (M : Nat) (C : Ci) (last : Nat) (hC : COk w0 C last) (U G : Nat) (t : Nat) (ht : t ≤ last) (w : World) (v : Value) (vars : Int) (rs : List Row)
   (hU : Un w0 w M v vars rs C last) (hB : Bxs w v M [(⟨U, 0, none⟩, .pointer (some ⟨M, 0, none⟩)), (⟨G, 0, none⟩, C.h.v)]) (hl : rs.length + (holdsT C t).length ≤ 800000) :
   Calls Tryz.prog 50 #[.int .i64 t, .pointer (some ⟨G, 0, none⟩), .pointer (some ⟨U, 0, none⟩)] w (MkOut w0 w M v (vars + 0) rs (holdsT C t) C last) := by
 have ht1 := hC.tf (show t ≤ last by omega)
 have hf := hC.f0
 have hpl := hC.pl
 have hla := hC.la
 have hhl := hC.hl
 have hsm := hC.sm
 have hi1 := hC.i1
 have hi0 := hC.i0
 have ha0 := hC.a0
 have hfe : C.f = C.ins + C.ps.length := rfl
 have HB := hide hB
 have HU := hide hU
 have HC := hide hC
 have HL : Hid (∀ k, k ≤ C.h.ns.length → (stepsL (holdC C t) k).length ≤ (holdsT C t).length) := fun k hk => stepsL_mono _ hk
 have HSU : Hid (∀ k, stepsL (holdC C t) (k + 1) = stepsL (holdC C t) k ++ rootC (atL C.f t (C.h.ns.getD k 0))) := fun k => stepsL_succ _ k
 have g0 := (hB _ _ (.tail _ (.head _))).1
 have hZ : Hid (holdsT C t = stepsL (holdC C t) C.h.ns.length) := rfl
 generalize holdsT C t = Z at *
 clear hB hU hC
 simp only [Sl.v] at g0
 obtain ⟨pp, HPP⟩ : ∃ pp, Hid (C.h.at' = pp) := ⟨_, rfl⟩
 rw [HPP.out] at g0
 go_enter Tryz.func50, Tryz.ntmps50
 go_wp2
 go_loopw [8] (fun i wr => ∃ k : Nat, k ≤ C.h.ns.length ∧ i = .int .i64 k ∧ Hid (∃ v' rs', numsOf rs' = numsOf rs ++ stepsL (holdC C t) k ∧ Un w0 wr M v' vars rs' C last ∧ Kp M w v wr v')) (fun i _ => C.h.ns.length - (intOf i).toNat)
 case atStart => exact ⟨0, Nat.zero_le _, rfl, v, rs, by simp [stepsL], HU.out, Kp.refl _ _ _⟩
 case round =>
   obtain ⟨k, hk, rfl, HR⟩ := hrel
   obtain ⟨v1, rs1, hn1, hU1, hk1⟩ := HR.out
   by_cases hlt : k < C.h.ns.length
   · have hki : (k : Int) < (C.h.ns.length : Int) := by omega
     have b1 := ((HB.out.kp hk1) _ _ (.head _)).1
     have hle := HL.out (k + 1) (by omega)
     have hbn := HC.out.nh _ (getD_mem' hlt)
     obtain ⟨gb, goff, hge, hgc⟩ := (HC.out.at'.h.later hU1.bl) (by omega)
     have gk := hgc k hlt
     obtain rfl : pp = some ⟨gb, goff, none⟩ := HPP.out.symm.trans hge
     clear hge
     rw [show C.h.ns[k] = C.h.ns.getD k 0 by simp [List.getD, List.getElem?_eq_getElem hlt]] at gk
     have HSK := hide (HSU.out k)
     have hln := numsOf_lenE hn1
     rw [List.length_append, numsOf_len] at hln
     rw [HSK.out, List.length_append] at hle
     have hat := atL_bd (x := C.h.ns.getD k 0) ht1.1 ht1.2 hbn.1 hbn.2
     have HAT := hide (fun w' (hb : Below wr.heap.size wr w') => at_any M C last t (C.h.ns.getD k 0) (by omega) hi1 (by omega) hbn.1 (by omega) ht1.1 (by omega) w' (hU1.un.later hb))
     have HSM := hide (fun w' (hb : Below wr.heap.size wr w') => rootM_any w0.heap.size M v1 vars rs1 (by omega) (atL C.f t (C.h.ns.getD k 0)) (by omega) (by omega) w' (by have := hU1.sz; have := hb.size; omega) (hU1.cm.below hb))
     have HN1 := hide hn1
     have HU1 := hide hU1
     have HK1 := hide hk1
     have hbd : Below wr.heap.size wr wr.drew := (Below.refl _ wr).drew
     have hxU : ∀ w' v', Kp M wr v1 w' v' → w'.cell? ⟨U, 0, none⟩ = some (.pointer (some ⟨M, 0, none⟩)) := fun w' v' hk => (((HB.out.kp hk1).kp hk) _ _ (.head _)).1
     have HXU := hide hxU
     generalize atL C.f t (C.h.ns.getD k 0) = y at *
     generalize C.h.ns.getD k 0 = z at *
     clear hgc hxU hn1 hU1 hk1 HR hat hbn hle hln
     go_wp2
     go_region_held3 (fun w' => w'.cell? ⟨U, 0, none⟩ = some (.pointer (some ⟨M, 0, none⟩)))
       (first | exact HXU.out _ _ hk4 | exact cell_later hbB b1 | exact cell_later hbd b1 | go_keep)
       (first
         | (go_at_call 51; have hq := hbB; refine (HSM.out _ hbB).mono ?_; rintro e w4 ⟨rfl, v4, rs4, hn4, hc4, hb4, hk4'⟩; have hk4 := (Kp.later (M := M) (v := v1) hbB).trans hk4')
         | (go_at_call 45; refine (HAT.out _ hbd).mono ?_; rintro e wB ⟨rfl, hb⟩; have hbB := bthen hbd hb))
     all_goals
       rename_i hHeld
       have HR4 := hide (show ∃ v' rs', numsOf rs' = numsOf rs ++ stepsL (holdC C t) (k + 1) ∧ Un w0 w4 M v' vars rs' C last ∧ Kp M w v w4 v' from ⟨v4, rs4, by rw [hn4, HN1.out, HSK.out, List.append_assoc], HU1.out.next hc4 ((hbB.mono HU1.out.sz).trans hb4) hk4, HK1.out.trans hk4⟩)
       clear hHeld hn4 hc4 hb4 hk4 hk4' hbB HSM HAT HSK
       go_wp2
       go_roundw
       case rel => exact ⟨k + 1, by omega, by go_num, HR4⟩
       case measure => simp [intOf]; omega
   · obtain rfl : k = C.h.ns.length := by omega
     have HE := hide (show MkOut w0 w M v (vars + 0) rs Z C last (.returned (.tuple #[])) wr from ⟨rfl, v1, rs1, by rw [hn1, hZ.out], by simpa using hU1, hk1⟩)
     clear hn1 hU1 hk1
     go_wp2
     go_end0
     exact HE.out
end Go.Proofs.YtmambfdimeeijaaGreatDoor

namespace Go.Proofs.YtmambfdimeeijaaGreatDoor
open Go.RowKit Go.Maps Go.WideMaps
set_option maxRecDepth 100000
set_option maxHeartbeats 8000000 in
theorem beginsMake_any (w0 : World) (M : Nat) (C : Ci) (last : Nat) (hC : COk w0 C last) (U G : Nat) (w : World) (v : Value) (vars : Int) (rs : List Row)
   (hU : Un w0 w M v vars rs C last) (hB : Bxs w v M [(⟨U, 0, none⟩, .pointer (some ⟨M, 0, none⟩)), (⟨G, 0, none⟩, C.i.v)]) (hl : rs.length + (beginsT C).length ≤ 800000) :
   Calls Tryz.prog 161 #[.pointer (some ⟨G, 0, none⟩), .pointer (some ⟨U, 0, none⟩)] w (MkOut w0 w M v (vars + 0) rs (beginsT C) C last) := by
 have ht2 := hC.tf (show 0 ≤ last by omega)
 have hf := hC.f0
 have hpl := hC.pl
 have hla := hC.la
 have hil := hC.il
 have hsm := hC.sm
 have hi1 := hC.i1
 have ha0 := hC.a0
 have hfe : C.f = C.ins + C.ps.length := rfl
 have HB := hide hB
 have HU := hide hU
 have HC := hide hC
 have HL : Hid (∀ k, k ≤ C.i.ns.length → (stepsL (beginC C) k).length ≤ (beginsT C).length) := fun k hk => stepsL_mono _ hk
 have HSU : Hid (∀ k, stepsL (beginC C) (k + 1) = stepsL (beginC C) k ++ (if C.i.ns.getD k 0 = -1 then [] else sameC (stL C.f C.a 0 k) (C.i.ns.getD k 0))) := fun k => stepsL_succ _ k
 have g0 := (hB _ _ (.tail _ (.head _))).1
 have hZ : Hid (beginsT C = stepsL (beginC C) C.i.ns.length) := rfl
 generalize beginsT C = Z at *
 clear hB hU hC
 simp only [Sl.v] at g0
 obtain ⟨pp, HPP⟩ : ∃ pp, Hid (C.i.at' = pp) := ⟨_, rfl⟩
 rw [HPP.out] at g0
 go_enter Tryz.func161, Tryz.ntmps161
 go_wp2
 go_loopw [6] (fun i wr => ∃ k : Nat, k ≤ C.i.ns.length ∧ i = .int .i64 k ∧ Hid (∃ v' rs', numsOf rs' = numsOf rs ++ stepsL (beginC C) k ∧ Un w0 wr M v' vars rs' C last ∧ Kp M w v wr v')) (fun i _ => C.i.ns.length - (intOf i).toNat)
 case atStart => exact ⟨0, Nat.zero_le _, rfl, v, rs, by simp [stepsL], HU.out, Kp.refl _ _ _⟩
 case round =>
   obtain ⟨k, hk, rfl, HR⟩ := hrel
   obtain ⟨v1, rs1, hn1, hU1, hk1⟩ := HR.out
   by_cases hlt : k < C.i.ns.length
   · have hki : (k : Int) < (C.i.ns.length : Int) := by omega
     have b1 := ((HB.out.kp hk1) _ _ (.head _)).1
     have hle := HL.out (k + 1) (by omega)
     have hbn := HC.out.ni _ (getD_mem' hlt)
     obtain ⟨gb, goff, hge, hgc⟩ := (HC.out.at'.i.later hU1.bl) (by omega)
     have gk := hgc k hlt
     obtain rfl : pp = some ⟨gb, goff, none⟩ := HPP.out.symm.trans hge
     clear hge
     rw [show C.i.ns[k] = C.i.ns.getD k 0 by simp [List.getD, List.getElem?_eq_getElem hlt]] at gk
     have HSK := hide (HSU.out k)
     have hln := numsOf_lenE hn1
     rw [List.length_append, numsOf_len] at hln
     generalize C.i.ns.getD k 0 = z at *
     by_cases hz : z = -1
     · have HS2 : Hid (stepsL (beginC C) (k + 1) = stepsL (beginC C) k) := by unfold Hid; rw [HSK.out, if_pos hz]; simp
       have HR4 := hide (show ∃ v' rs', numsOf rs' = numsOf rs ++ stepsL (beginC C) (k + 1) ∧ Un w0 wr M v' vars rs' C last ∧ Kp M w v wr v' from ⟨v1, rs1, by rw [HS2.out]; exact hn1, hU1, hk1⟩)
       subst hz
       clear hgc hn1 hU1 hk1 HR hle hln HSK hbn
       go_wp2
       go_roundw
       case rel => exact ⟨k + 1, by omega, by go_num, HR4⟩
       case measure => simp [intOf]; omega
     · have HS2 : Hid (stepsL (beginC C) (k + 1) = stepsL (beginC C) k ++ sameC (stL C.f C.a 0 k) z) := by unfold Hid; rw [HSK.out, if_neg hz]
       rw [HS2.out, List.length_append] at hle
       have hzb : (z != -1) = true := by simpa using hz
       have hz2 := hbn.resolve_left hz
       have hst := stL_bd (f := C.f) (a := C.a) (t := 0) (i := k) ht2.1 ht2.2 ha0 (by omega)
       have HSA := hide (fun w' (hb : Below wr.heap.size wr w') => state_any M C last 0 k (by omega) hi1 (by omega) ha0 (by omega) (by omega) ht2.1 (by omega) w' (hU1.un.later hb))
       have HSM := hide (fun w' (hb : Below wr.heap.size wr w') => sameM_any w0.heap.size M v1 vars rs1 (by omega) (stL C.f C.a 0 k) z (by omega) (by omega) (by omega) (by omega) w' (by have := hU1.sz; have := hb.size; omega) (hU1.cm.below hb))
       have HN1 := hide hn1
       have HU1 := hide hU1
       have HK1 := hide hk1
       have hbd : Below wr.heap.size wr wr.drew := (Below.refl _ wr).drew
       have hxU : ∀ w' v', Kp M wr v1 w' v' → w'.cell? ⟨U, 0, none⟩ = some (.pointer (some ⟨M, 0, none⟩)) := fun w' v' hk => (((HB.out.kp hk1).kp hk) _ _ (.head _)).1
       have HXU := hide hxU
       rw [show ((0 : Nat) : Int) = (0 : Int) by omega] at HSA
       generalize stL C.f C.a 0 k = x at *
       clear hgc hxU hn1 hU1 hk1 HR hst hbn hle hln hz HSK
       go_wp2
       go_region_held3 (fun w' => w'.cell? ⟨U, 0, none⟩ = some (.pointer (some ⟨M, 0, none⟩)))
         (first | exact HXU.out _ _ hk4 | exact cell_later hbB b1 | exact cell_later hbd b1 | go_keep)
         (first
           | (go_at_call 48; have hq := hbB; refine (HSM.out _ hbB).mono ?_; rintro e w4 ⟨rfl, v4, rs4, hn4, hc4, hb4, hk4'⟩; have hk4 := (Kp.later (M := M) (v := v1) hbB).trans hk4')
           | (go_at_call 49; refine (HSA.out _ hbd).mono ?_; rintro e wB ⟨rfl, hb⟩; have hbB := bthen hbd hb))
       all_goals
         rename_i hHeld
         have HR4 := hide (show ∃ v' rs', numsOf rs' = numsOf rs ++ stepsL (beginC C) (k + 1) ∧ Un w0 w4 M v' vars rs' C last ∧ Kp M w v w4 v' from ⟨v4, rs4, by rw [hn4, HN1.out, HS2.out, List.append_assoc], HU1.out.next hc4 ((hbB.mono HU1.out.sz).trans hb4) hk4, HK1.out.trans hk4⟩)
         clear hHeld hn4 hc4 hb4 hk4 hk4' hbB HSM HSA HS2
         go_wp2
         go_roundw
         case rel => exact ⟨k + 1, by omega, by go_num, HR4⟩
         case measure => simp [intOf]; omega
   · obtain rfl : k = C.i.ns.length := by omega
     have HE := hide (show MkOut w0 w M v (vars + 0) rs Z C last (.returned (.tuple #[])) wr from ⟨rfl, v1, rs1, by rw [hn1, hZ.out], by simpa using hU1, hk1⟩)
     clear hn1 hU1 hk1
     go_wp2
     go_end0
     exact HE.out
end Go.Proofs.YtmambfdimeeijaaGreatDoor
