/- Steps, unrolled: how many clauses there are, and how long they are. -/
import Derived.Test.YtjhkecnnhddhbaaGreatDoorKnM
import Derived.Test.YtjhkecnnhddhbaaGreatDoorRows
import Derived.ProofKit
import Derived.SizedLaws
import Derived.OpenShut
import Derived.ChangeOld
import Derived.Below
import Derived.Deep.Slices
import Derived.Test.YtjhkecnnhddhbaaGreatDoorKcM
import Derived.Deep.RegionLaw
import Derived.Deep.AppendLies
namespace Go.Proofs.YtjhkecnnhddhbaaGreatDoor
open Go.RowKit Go.Maps Go.WideMaps
set_option maxRecDepth 100000
theorem stepsL_len {f : Nat → List (List Int)} {c n : Nat} (h : ∀ k, k < n → (f k).length = c) : (stepsL f n).length = n * c := by
 induction n with
 | zero => simp [stepsL]
 | succ n ih =>
   rw [stepsL_succ, List.length_append, ih (fun k hk => h k (by omega)), h n (by omega), Nat.succ_mul]
theorem stepsL_cnt {f : Nat → List (List Int)} {g : Nat → Nat} {n : Nat} (h0 : g 0 = 0) (h : ∀ k, k < n → g (k + 1) = g k + (f k).length) : (stepsL f n).length = g n := by
 induction n with
 | zero => rw [h0]; simp [stepsL]
 | succ n ih =>
   rw [stepsL_succ, List.length_append, ih (fun k hk => h k (by omega)), h n (by omega)]
theorem mem_stepsL {f : Nat → List (List Int)} {n : Nat} {c : List Int} (h : c ∈ stepsL f n) : ∃ k, k < n ∧ c ∈ f k := by
 unfold stepsL at h
 obtain ⟨k, hk, hc⟩ := List.mem_flatMap.1 h
 exact ⟨k, List.mem_range.1 hk, hc⟩
theorem atL_one {f x : Int} {t : Nat} (h0 : 0 ≤ (t : Int) * f) (hx : 0 ≤ x) : (atL f t x = 0 ↔ x = 0) ∧ (atL f t x = 1 ↔ x = 1) := by
 unfold atL
 split <;> omega
theorem cntB_succ {z : Int} {l : List Int} {k : Nat} (h : k < l.length) : cntB z l (k + 1) = cntB z l k + (if l.getD k 0 = z then 0 else 1) := by
 show cntB z l k + (if l.getD k z = z then 0 else 1) = _
 simp [List.getD, List.getElem?_eq_getElem h]
theorem CO.f0 {w : World} {C : Ci} {last : Nat} (h : CO w C last) : 0 ≤ C.f := by unfold Ci.f; have := h.i0; omega
theorem CO.t0 {w : World} {C : Ci} {last : Nat} (h : CO w C last) (t : Nat) : 0 ≤ (t : Int) * C.f := Int.mul_nonneg (by omega) h.f0
theorem CO.sb {w : World} {C : Ci} {last : Nat} (h : CO w C last) (t i : Nat) : 2 ≤ stL C.f C.a t i := by
 have := h.t0 t
 have := h.a0
 unfold stL atL
 rw [if_neg (by omega)]
 omega
theorem ands_len {w : World} {C : Ci} {last : Nat} (_h : CO w C last) : (stepsL (fun t => andsT C t C.ps.length) (last + 1)).length = (last + 1) * (3 * C.ps.length) := stepsL_len fun _ _ => andsT_len C _ _ (Nat.le_refl _)
theorem bonds_len {w : World} {C : Ci} {last : Nat} (h : CO w C last) : (stepsL (bondsT C) last).length = last * (cntB 0 C.n.ns C.n.ns.length + cntB 1 C.n.ns C.n.ns.length) := by
 refine stepsL_len fun t _ => stepsL_cnt (g := fun k => cntB 0 C.n.ns k + cntB 1 C.n.ns k) rfl fun k hk => ?_
 have hx := h.nn _ (getD_mem' hk)
 have ha := atL_one (h.t0 t) hx.1
 simp only [cntB_succ hk]
 unfold bondC
 rw [sameC_len (h.sb _ _)]
 simp only [ha.1, ha.2]
 omega
theorem holds_len {w : World} {C : Ci} {last : Nat} (h : CO w C last) : (stepsL (holdsT C) (last + 1)).length = (last + 1) * cntB 1 C.h.ns C.h.ns.length := by
 refine stepsL_len fun t _ => stepsL_cnt (g := fun k => cntB 1 C.h.ns k) rfl fun k hk => ?_
 have hx := h.nh _ (getD_mem' hk)
 have ha := atL_one (h.t0 t) hx.1
 simp only [cntB_succ hk]
 unfold holdC
 rw [rootC_len]
 simp only [ha.2]
theorem hang_false {l : List Int} (h : l.any hangI = false) (hl : ∀ x ∈ l, x = -1 ∨ 0 ≤ x) : ∀ x ∈ l, x = -1 ∨ x = 0 ∨ x = 1 := fun x hx => by
 have h1 := List.any_eq_false.1 h x hx
 have h2 := hl x hx
 simp [hangI] at h1
 omega
theorem begins_len {w : World} {C : Ci} {last : Nat} (h : CO w C last) (hh : C.i.ns.any hangI = false) : (beginsT C).length = cntB (-1) C.i.ns C.i.ns.length := by
 refine stepsL_cnt (g := fun k => cntB (-1) C.i.ns k) rfl fun k hk => ?_
 have hx := hang_false hh (fun x hx => (h.ni x hx).imp id (fun q => q.1)) _ (getD_mem' hk)
 simp only [cntB_succ hk]
 unfold beginC
 generalize C.i.ns.getD k 0 = x at *
 by_cases hm : x = -1
 · rw [if_pos hm, if_pos hm]; rfl
 · rw [if_neg hm, if_neg hm, sameC_len (h.sb _ _)]
   rcases hx.resolve_left hm with rfl | rfl <;> rfl
theorem andsC_short {ins : Int} {ps : List (Int × Int)} {k : Nat} {c : List Int} (h : c ∈ andsC ins ps k) : c.length ≤ 3 := by
 induction k with
 | zero => cases h
 | succ k ih =>
   unfold andsC at h
   rcases List.mem_append.1 h with h | h
   · exact ih h
   · split at h
     · simp [andC] at h
       rcases h with rfl | rfl | rfl <;> simp
     · cases h
theorem rootC_short {x : Int} {c : List Int} (h : c ∈ rootC x) : c.length ≤ 1 := by
 unfold rootC at h
 split at h
 · cases h
 · split at h
   · simp at h; subst h; simp
   · simp at h; subst h; simp
theorem sameC_short {x y : Int} {c : List Int} (h : c ∈ sameC x y) : c.length ≤ 2 := by
 unfold sameC at h
 split at h
 · have := rootC_short h; omega
 · split at h
   · have := rootC_short h; omega
   · simp at h
     rcases h with rfl | rfl <;> simp
theorem badC_short {C : Ci} {last : Nat} {c : List Int} (h : c ∈ badC C last) : c.length ≤ C.b.ns.length := by
 unfold badC at h
 split at h
 · cases h
 · simp at h; subst h; exact badN_len C last _
def stepL (C : Ci) (last : Nat) (begun : Bool) : List (List Int) :=
 stepsL (fun t => andsT C t C.ps.length) (last + 1) ++ (stepsL (bondsT C) last ++ ((if begun = true then beginsT C else []) ++ (stepsL (holdsT C) (last + 1) ++ badC C last)))
theorem stepL_short {w : World} {C : Ci} {last : Nat} (h : CO w C last) {begun : Bool} {c : List Int} (hc : c ∈ stepL C last begun) : c.length ≤ 2000000 := by
 have hb := h.bl
 unfold stepL at hc
 rcases List.mem_append.1 hc with hc | hc
 · obtain ⟨k, _, hc⟩ := mem_stepsL hc
   have := andsC_short hc
   omega
 rcases List.mem_append.1 hc with hc | hc
 · obtain ⟨k, _, hc⟩ := mem_stepsL hc
   obtain ⟨j, _, hc⟩ := mem_stepsL hc
   have := sameC_short hc
   omega
 rcases List.mem_append.1 hc with hc | hc
 · split at hc
   · obtain ⟨j, _, hc⟩ := mem_stepsL hc
     unfold beginC at hc
     split at hc
     · cases hc
     · have := sameC_short hc
       omega
   · cases hc
 rcases List.mem_append.1 hc with hc | hc
 · obtain ⟨k, _, hc⟩ := mem_stepsL hc
   obtain ⟨j, _, hc⟩ := mem_stepsL hc
   have := rootC_short hc
   omega
 · have := badC_short hc
   omega
def unE (C : Ci) (steps : Int) (begun : Bool) : Int :=
 if C.e ≠ 0 then C.e else if steps < 0 ∨ 40 < steps then 3 else if (begun && C.i.ns.any hangI) = true then 7
 else if 200000 < (steps + 1) * C.f then 3 else if 800000 < (stepL C steps.toNat begun).length then 2 else chkC ((steps + 1) * C.f) (stepL C steps.toNat begun)
end Go.Proofs.YtjhkecnnhddhbaaGreatDoor

namespace Go.Proofs.YtjhkecnnhddhbaaGreatDoor
open Go.RowKit Go.Maps Go.WideMaps
set_option maxRecDepth 100000
def UnO (w : World) (E V : Int) (L : List (List Int)) (e : Ending) (w' : World) : Prop := ∃ pv cv rws,
 e = .returned (.tuple #[cval (ofV E V) pv (List.length rws) cv, .int .i64 E]) ∧ numsOf rws = ofL E L ∧ ClAt w' pv rws ∧ Below w.heap.size w w'
theorem unO_no {w w' : World} {E V : Int} {L : List (List Int)} (hne : E ≠ 0) (hb : Below w.heap.size w w') : UnO w E V L (.returned (.tuple #[cval 0 none 0 0, .int .i64 E])) w' :=
 ⟨none, 0, [], by unfold ofV; rw [if_neg hne]; rfl, by unfold ofL; rw [if_neg hne]; rfl, clAt_nil _, hb⟩
theorem unO_of {w w1 w' : World} {E V : Int} {L : List (List Int)} {G : Nat} {pv : Option Addr} {cv : Nat} {rws : List Row} (hb1 : Below w.heap.size w w1) (hG : G < w1.heap.size) (hG0 : w.heap.size ≤ G)
   (hn : numsOf rws = ofL E L) (hcl : ClAt w' pv rws) (hb : Below w1.heap.size w1 w') (hp : ∀ a, pv = some a → w1.heap.size ≤ a.block) (hr : ∀ r ∈ rws, ∀ a, r.at' = some a → w1.heap.size ≤ a.block) (u u' : Value) :
   UnO w E V L (.returned (.tuple #[cval (ofV E V) pv rws.length cv, .int .i64 E])) ((w'.setCell ⟨G, 0, none⟩ u).setCell ⟨G, 1, none⟩ u') :=
 ⟨pv, cv, rws, rfl, hn, clAt_set (clAt_set hcl (fun a ha e => by have := hp a ha; omega) (fun r h a ha e => by have := hr r h a ha; omega)) (fun a ha e => by have := hp a ha; omega) (fun r h a ha e => by have := hr r h a ha; omega),
   ((bthen hb1 hb).setCell (p := ⟨G, 0, none⟩) hG0 _).setCell (p := ⟨G, 1, none⟩) hG0 _⟩
theorem pok_of {w0 : World} {M : Nat} {C : Ci} {last : Nat} {p : Prt} {vs : Int} {n : Nat} {L : List (List Int)} (h1 : p.vs = vs) (h2 : p.cs = n) (h3 : p.L = L) (hv0 : 0 ≤ vs) (hv1 : vs ≤ 1000000000000) (hn : L.length = n) (hn1 : n ≤ 1000000000000) (hm : ((last : Int) + 1) * C.f ≤ 200000 → Makes w0 M C last p)
   (he : ∀ (args : Array Value) (w : World), (callFunc p.fn args).run Tryz.prog w = .ok (.enter p.fn args) w) : POk w0 M C last p :=
 ⟨by omega, by omega, by rw [h2, h3, hn], by omega, hm, he⟩
theorem madE_of {ps : List Prt} {V : Int} {L : List (List Int)} (h1 : sumV ps ps.length = V) (h2 : madeL ps ps.length = L) : madE ps = if 200000 < V then 3 else if 800000 < L.length then 2 else chkC V L := by
 unfold madE
 rw [h1, h2]
set_option maxHeartbeats 16000000 in
theorem clausesU_any (C : Ci) (steps : Int) (begun : Bool) (w : World) (hC : CIn w C) : Calls Tryz.prog 4 #[C.v, .int .i64 steps, .bool begun] w (UnO w (unE C steps begun) ((steps + 1) * C.f) (stepL C steps.toNat begun)) := by
 have hb1 : Below w.heap.size w ((w.alloc (.cells #[.int .i64 C.ins, .slice C.p C.ps.length C.cap, .int .i64 C.a, .int .i64 C.s, C.i.v, C.n.v, C.b.v, C.h.v] 27)).alloc (.cells #[.int .i64 0, .slice none 0 0] 30)) := bal (bal (Below.refl _ _) _) _
 have hG : ((w.alloc (.cells #[.int .i64 C.ins, .slice C.p C.ps.length C.cap, .int .i64 C.a, .int .i64 C.s, C.i.v, C.n.v, C.b.v, C.h.v] 27)).alloc (.cells #[.int .i64 0, .slice none 0 0] 30)).heap[w.heap.size + 1]? = some (.cells #[.int .i64 0, .slice none 0 0] 30) := alloc_at (by simp)
 have x4 : ((w.alloc (.cells #[.int .i64 C.ins, .slice C.p C.ps.length C.cap, .int .i64 C.a, .int .i64 C.s, C.i.v, C.n.v, C.b.v, C.h.v] 27)).alloc (.cells #[.int .i64 0, .slice none 0 0] 30)).cell? ⟨w.heap.size, 4, none⟩ = some C.i.v := by simp [go_sem]
 have HIN := hide (hC.later hb1)
 have HNW := hide (newU_any C steps _ HIN.out)
 have HG := hide hG
 have HB1 := hide hb1
 have HE : Hid (unE C steps begun = if C.e ≠ 0 then C.e else if steps < 0 ∨ 40 < steps then 3 else if (begun && C.i.ns.any hangI) = true then 7
   else if 200000 < (steps + 1) * C.f then 3 else if 800000 < (stepL C steps.toNat begun).length then 2 else chkC ((steps + 1) * C.f) (stepL C steps.toNat begun)) := rfl
 clear hC hb1 hG
 unfold Ci.v circ at HNW
 simp only [Sl.v] at *
 go_enter Tryz.func4, Tryz.ntmps4
 go_wp2_with fail
 generalize (w.alloc (.cells #[.int .i64 C.ins, .slice C.p C.ps.length C.cap, .int .i64 C.a, .int .i64 C.s, .slice C.i.at' C.i.ns.length C.i.cap, .slice C.n.at' C.n.ns.length C.n.cap, .slice C.b.at' C.b.ns.length C.b.cap, .slice C.h.at' C.h.ns.length C.h.cap] 27)).alloc (.cells #[.int .i64 0, .slice none 0 0] 30) = w1 at *
 have hGl : w.heap.size + 1 < w1.heap.size := (Array.getElem?_eq_some_iff.1 HG.out).1
 refine HNW.out.mono ?_
 rintro e w2 ⟨hb2, hcase⟩
 have HB2 := hide hb2
 have HR2 := hide (r30 ((hb2.block _ hGl).trans HG.out))
 have y4 := cell_later hb2 x4
 clear HNW hb2 x4
 rcases hcase with ⟨he, rfl⟩ | ⟨he, hst, rfl⟩ | ⟨he, h0, h40, M, rfl, hU⟩
 · have HX : Hid (unE C steps begun = C.e) := by unfold Hid; rw [HE.out, if_pos he]
   obtain ⟨g0, g1, f0, f1⟩ := HR2.out.1
   have heb : (C.e != 0) = true := by simpa using he
   have HEND : Hid (UnO w C.e ((steps + 1) * C.f) (stepL C steps.toNat begun) (.returned (.tuple #[cval 0 none 0 0, .int .i64 C.e])) ((w2.setCell ⟨w.heap.size + 1, 0, none⟩ (.int .i64 0)).setCell ⟨w.heap.size + 1, 1, none⟩ (.slice none 0 0))) :=
     unO_no he (((bthen HB1.out HB2.out).setCell (p := ⟨w.heap.size + 1, 0, none⟩) (by simp) _).setCell (p := ⟨w.heap.size + 1, 1, none⟩) (by simp) _)
   clear HE he
   generalize C.e = E at *
   go_wp2
   refine bodyPost_ret (res30 rfl _ rfl (HR2.out.2 _ _)) rfl ?_
   rw [HX.out]
   exact HEND.out
 · have HX : Hid (unE C steps begun = 3) := by unfold Hid; rw [HE.out, if_neg (by simpa using he), if_pos hst]
   obtain ⟨g0, g1, f0, f1⟩ := HR2.out.1
   have HEND : Hid (UnO w 3 ((steps + 1) * C.f) (stepL C steps.toNat begun) (.returned (.tuple #[cval 0 none 0 0, .int .i64 3])) ((w2.setCell ⟨w.heap.size + 1, 0, none⟩ (.int .i64 0)).setCell ⟨w.heap.size + 1, 1, none⟩ (.slice none 0 0))) :=
     unO_no (by decide) (((bthen HB1.out HB2.out).setCell (p := ⟨w.heap.size + 1, 0, none⟩) (by simp) _).setCell (p := ⟨w.heap.size + 1, 1, none⟩) (by simp) _)
   clear HE he hst
   go_wp2
   refine bodyPost_ret (res30 rfl _ rfl (HR2.out.2 _ _)) rfl ?_
   rw [HX.out]
   exact HEND.out
 · have hst : ((steps.toNat : Nat) : Int) = steps := by omega
   have hCO : CO w1 C steps.toNat := co_of HIN.out he _ (by omega)
   have HCO := hide hCO
   have HE2 : Hid (unE C steps begun = if (begun && C.i.ns.any hangI) = true then 7
     else if 200000 < (steps + 1) * C.f then 3 else if 800000 < (stepL C steps.toNat begun).length then 2 else chkC ((steps + 1) * C.f) (stepL C steps.toNat begun)) := by unfold Hid; rw [HE.out, if_neg (by simpa using he), if_neg (by omega)]
   have hlf := hCO.lf
   have hV : (steps + 1) * C.f = ((steps.toNat + 1 : Nat) : Int) * C.f := by rw [← hst]; simp
   have hV2 : (((steps.toNat : Nat) : Int) + 1) * C.f = (steps + 1) * C.f := by rw [hst]
   have hV3 : (steps + 1) * C.f = (steps.toNat : Int) * C.f + C.f := by rw [← hV2, Int.add_mul]; omega
   have hVb : 0 ≤ (steps + 1) * C.f ∧ (steps + 1) * C.f ≤ 100000000 := by have := hCO.f0; omega
   have HV := hide hV
   have HV2 := hide hV2
   have HU := hide hU
   have hla : steps.toNat ≤ 40 := by omega
   generalize steps.toNat = last at *
   clear HE hU hCO hlf hV hV2 hV3 hst
   have hn_ands : (last + 1) * (3 * C.ps.length) ≤ 1000000000000 := Nat.le_trans (Nat.mul_le_mul (show last + 1 ≤ 41 by omega) (show 3 * C.ps.length ≤ 3000003 by have := HCO.out.p1; omega)) (by decide)
   have hn_bonds : last * (cntB 0 C.n.ns C.n.ns.length + cntB 1 C.n.ns C.n.ns.length) ≤ 1000000000000 := Nat.le_trans (Nat.mul_le_mul hla (show _ ≤ 3000 by have := cntB_le 0 C.n.ns C.n.ns.length; have := cntB_le 1 C.n.ns C.n.ns.length; have := HCO.out.nl; have := HCO.out.sm; have := HCO.out.i1; have := HCO.out.a0; omega)) (by decide)
   have hn_holds : (last + 1) * cntB 1 C.h.ns C.h.ns.length ≤ 1000000000000 := Nat.le_trans (Nat.mul_le_mul (show last + 1 ≤ 41 by omega) (show _ ≤ 2000000 by have := cntB_le 1 C.h.ns C.h.ns.length; have := HCO.out.hl; omega)) (by decide)
   have hn_begins : cntB (-1) C.i.ns C.i.ns.length ≤ 1000000000000 := by have := cntB_le (-1) C.i.ns C.i.ns.length; have := HCO.out.il; have := HCO.out.sm; have := HCO.out.i1; have := HCO.out.a0; omega
   have hn_bad : (badC C last).length ≤ 1000000000000 := by unfold badC; split <;> simp
   have HNB := hide (And.intro hn_ands (And.intro hn_bonds (And.intro hn_holds (And.intro hn_begins hn_bad))))
   clear hn_ands hn_bonds hn_holds hn_begins hn_bad
   cases begun with
   | false =>
     have HE3 : Hid (unE C steps false = if 200000 < (steps + 1) * C.f then 3 else if 800000 < (stepL C last false).length then 2 else chkC ((steps + 1) * C.f) (stepL C last false)) := HE2.out
     clear HE2
     generalize unE C steps false = E at *
     clear HR2 y4
     go_wp2_with fail
     refine (ands_any w1 M C last HCO.out w2 _ _ _ HU.out).mono ?_
     rintro e w3 ⟨p1, rfl, hv1, hc1, hL1, hd1, hb, hx1, hm1, he1⟩
     have HU1 := hide (HU.out.later hb)
     have HB3 := hide (bthen HB2.out hb)
     have HX1_1 := hide hx1
     have HP1 := hide (pok_of hv1 hc1 hL1 (by rw [← HV.out]; omega) (by rw [← HV.out]; omega) (ands_len HCO.out) HNB.out.1 hm1 he1)
     have HVL1 := hide (And.intro hv1 hL1)
     have HD1 := hide hd1
     clear hv1 hc1 hL1 hd1 hb hx1 hm1 he1
     unfold Prt.v
     go_wp2_with fail
     refine (bonds_any w1 M C last HCO.out w3 _ _ _ HU1.out).mono ?_
     rintro e w4 ⟨p2, rfl, hv2, hc2, hL2, hd2, hb, hx2, hm2, he2⟩
     have HU2 := hide (HU1.out.later hb)
     have HB4 := hide (bthen HB3.out hb)
     have HX1_2 := hide (HX1_1.out.later hb)
     have HX2_2 := hide hx2
     have HP2 := hide (pok_of hv2 hc2 hL2 (by omega) (by omega) (bonds_len HCO.out) HNB.out.2.1 hm2 he2)
     have HVL2 := hide (And.intro hv2 hL2)
     have HD2 := hide hd2
     clear hv2 hc2 hL2 hd2 hb hx2 hm2 he2
     unfold Prt.v
     go_wp2_with fail
     refine (holds_any w1 M C last HCO.out w4 _ _ _ HU2.out).mono ?_
     rintro e w5 ⟨p3, rfl, hv3, hc3, hL3, hd3, hb, hx3, hm3, he3⟩
     have HU3 := hide (HU2.out.later hb)
     have HB5 := hide (bthen HB4.out hb)
     have HX1_3 := hide (HX1_2.out.later hb)
     have HX2_3 := hide (HX2_2.out.later hb)
     have HX3_3 := hide hx3
     have HP3 := hide (pok_of hv3 hc3 hL3 (by omega) (by omega) (holds_len HCO.out) HNB.out.2.2.1 hm3 he3)
     have HVL3 := hide (And.intro hv3 hL3)
     have HD3 := hide hd3
     clear hv3 hc3 hL3 hd3 hb hx3 hm3 he3
     unfold Prt.v
     go_wp2_with fail
     refine (bad_any w1 M C last HCO.out w5 _ _ _ HU3.out).mono ?_
     rintro e w6 ⟨p4, rfl, hv4, hc4, hL4, hd4, hb, hx4, hm4, he4⟩
     have HU4 := hide (HU3.out.later hb)
     have HB6 := hide (bthen HB5.out hb)
     have HX1_4 := hide (HX1_3.out.later hb)
     have HX2_4 := hide (HX2_3.out.later hb)
     have HX3_4 := hide (HX3_3.out.later hb)
     have HX4_4 := hide hx4
     have HP4 := hide (pok_of hv4 hc4 hL4 (by omega) (by omega) (rfl) HNB.out.2.2.2.2 hm4 he4)
     have HVL4 := hide (And.intro hv4 hL4)
     have HD4 := hide hd4
     clear hv4 hc4 hL4 hd4 hb hx4 hm4 he4
     unfold Prt.v
     have hbP : Below w6.heap.size w6 (w6.alloc (.cells #[.int .i64 p1.vs, .int .i64 p1.cs, .func (.func p1.fn) #[] p1.caps, .int .i64 p2.vs, .int .i64 p2.cs, .func (.func p2.fn) #[] p2.caps, .int .i64 p3.vs, .int .i64 p3.cs, .func (.func p3.fn) #[] p3.caps, .int .i64 p4.vs, .int .i64 p4.cs, .func (.func p4.fn) #[] p4.caps] 45)) := bal (Below.refl _ _) _
     have hnw := HU4.out.new (Nat.le_refl w6.heap.size)
     have HPB : Hid (PrB (w6.alloc (.cells #[.int .i64 p1.vs, .int .i64 p1.cs, .func (.func p1.fn) #[] p1.caps, .int .i64 p2.vs, .int .i64 p2.cs, .func (.func p2.fn) #[] p2.caps, .int .i64 p3.vs, .int .i64 p3.cs, .func (.func p3.fn) #[] p3.caps, .int .i64 p4.vs, .int .i64 p4.cs, .func (.func p4.fn) #[] p4.caps] 45)) (.slice none 0 0) M w6.heap.size [p1, p2, p3, p4]) := ⟨hnw.1, hnw.2, fun i hi => by
       match i, hi with
       | 0, _ => exact ⟨by simp [go_sem], by simp [go_sem], by simp [go_sem]⟩
       | 1, _ => exact ⟨by simp [go_sem], by simp [go_sem], by simp [go_sem]⟩
       | 2, _ => exact ⟨by simp [go_sem], by simp [go_sem], by simp [go_sem]⟩
       | 3, _ => exact ⟨by simp [go_sem], by simp [go_sem], by simp [go_sem]⟩
       | k + 4, hi => simp at hi; omega⟩
     have hsv : sumV [p1, p2, p3, p4] 4 = (steps + 1) * C.f := by
       show 0 + p1.vs + p2.vs + p3.vs + p4.vs = _
       rw [HVL1.out.1, HVL2.out.1, HVL3.out.1, HVL4.out.1, HV.out]; omega
     have hml : madeL [p1, p2, p3, p4] 4 = stepL C last false := by
       show p1.L ++ (p2.L ++ (p3.L ++ (p4.L ++ []))) = _
       rw [HVL1.out.2, HVL2.out.2, HVL3.out.2, HVL4.out.2]; simp [stepL]
     have hmd := made_parts w1 M C last [p1, p2, p3, p4] (by simp) (by simp) (fun p hp => by
       simp only [List.mem_cons, List.mem_nil_iff, or_false] at hp
       rcases hp with rfl | rfl | rfl | rfl
       · exact HP1.out
       · exact HP2.out
       · exact HP3.out
       · exact HP4.out
       ) (fun c hc => by rw [show [p1, p2, p3, p4].length = 4 from rfl, hml] at hc; have := stepL_short HCO.out hc; omega) (by rw [show [p1, p2, p3, p4].length = 4 from rfl, hsv, HV2.out]; exact id) (fun k hk x hx => by
         match k, hk, hx with
         | 0, _, hx => rw [show [p1, p2, p3, p4][0] = p1 from rfl, HD1.out] at hx; cases hx
         | 1, _, hx => rw [show [p1, p2, p3, p4][1] = p2 from rfl, HD2.out] at hx; cases hx
         | 2, _, hx => rw [show [p1, p2, p3, p4][2] = p3 from rfl, HD3.out] at hx; cases hx
         | 3, _, hx => rw [show [p1, p2, p3, p4][3] = p4 from rfl, HD4.out] at hx; cases hx
         | k + 4, hk, _ => simp at hk; omega
         ) w6.heap.size _ (HU4.out.later hbP) HPB.out (fun p hp => by
       simp only [List.mem_cons, List.mem_nil_iff, or_false] at hp
       rcases hp with rfl | rfl | rfl | rfl
       · exact HX1_4.out.later hbP
       · exact HX2_4.out.later hbP
       · exact HX3_4.out.later hbP
       · exact HX4_4.out.later hbP
       )
     rw [madE_of (V := (steps + 1) * C.f) (L := stepL C last false) hsv hml, ← HE3.out] at hmd
     rw [show [p1, p2, p3, p4].length = 4 from rfl, hsv, hml] at hmd
     have HMD := hide hmd
     clear hmd hsv hml HPB hbP hnw HP1 HVL1 HP2 HVL2 HP3 HVL3 HP4 HVL4 HX1_1 HX1_2 HX2_2 HX1_3 HX2_3 HX3_3 HX1_4 HX2_4 HX3_4 HX4_4
     go_wp2_with fail
     refine HMD.out.mono ?_
     rintro e w9 ⟨⟨pv, cv, rws, rfl, hn9, hcl9, hb9, hp9, hr9⟩, _⟩
     have HR9 := hide (r30 ((hb9.block _ hGl).trans HG.out))
     obtain ⟨g0, g1, f0, f1⟩ := HR9.out.1
     have HEND := hide (unO_of (V := (steps + 1) * C.f) (cv := cv) HB1.out hGl (by omega) hn9 hcl9 hb9 hp9 hr9 (.int .i64 (ofV E ((steps + 1) * C.f))) (.slice pv rws.length cv))
     clear hn9 hcl9 hb9 hp9 hr9 HMD
     generalize ofV E ((steps + 1) * C.f) = V9 at *
     go_wp2
     refine bodyPost_ret (res30 rfl _ rfl (HR9.out.2 _ _)) rfl ?_
     exact HEND.out
   | true =>
     have HCF := hide (containsFunc0_any 16 hangI C.i.ns C.i.at' C.i.cap w2 HIN.out.il (HIN.out.at'.i.later HB2.out) enter16 (fun wr hb i hi => hang1_any _ ((HCO.out.ni _ (List.getElem_mem hi)).imp id (fun q => ⟨q.1, by have := q.2; have := HCO.out.lf; have := HCO.out.la; have := HCO.out.i1; have := HCO.out.p1; unfold Ci.f at *; omega⟩)) wr))
     cases hany : C.i.ns.any hangI with
     | true =>
       rw [hany] at HCF
       have HX : Hid (unE C steps true = 7) := by unfold Hid; rw [HE2.out, hany]; rfl
       clear HE2
       go_wp2_with fail
       refine HCF.out.mono ?_
       rintro e w3 ⟨rfl, hb3⟩
       have HR3 := hide (r30 ((hb3.block _ (by have := HB2.out.size; omega)).trans ((HB2.out.block _ hGl).trans HG.out)))
       obtain ⟨g0, g1, f0, f1⟩ := HR3.out.1
       have HEND : Hid (UnO w 7 ((steps + 1) * C.f) (stepL C last true) (.returned (.tuple #[cval 0 none 0 0, .int .i64 7])) ((w3.setCell ⟨w.heap.size + 1, 0, none⟩ (.int .i64 0)).setCell ⟨w.heap.size + 1, 1, none⟩ (.slice none 0 0))) :=
         unO_no (by decide) (((bthen HB1.out (bthen HB2.out hb3)).setCell (p := ⟨w.heap.size + 1, 0, none⟩) (by simp) _).setCell (p := ⟨w.heap.size + 1, 1, none⟩) (by simp) _)
       clear hb3 HCF hany HB2
       go_wp2
       refine bodyPost_ret (res30 rfl _ rfl (HR3.out.2 _ _)) rfl ?_
       rw [HX.out]
       exact HEND.out
     | false =>
       rw [hany] at HCF
       have HHG := hide hany
       have HE3 : Hid (unE C steps true = if 200000 < (steps + 1) * C.f then 3 else if 800000 < (stepL C last true).length then 2 else chkC ((steps + 1) * C.f) (stepL C last true)) := by unfold Hid; rw [HE2.out, hany]; rfl
       clear HE2 hany
       generalize unE C steps true = E at *
       go_wp2_with fail
       refine HCF.out.mono ?_
       rintro e w2b ⟨rfl, hb2b⟩
       have HU2b := hide (HU.out.later hb2b)
       have HB2b := hide (bthen HB2.out hb2b)
       clear hb2b HCF HB2 HU
       have HB2 := HB2b
       have HU := HU2b
       clear HB2b HU2b
       clear HR2 y4
       go_wp2_with fail
       refine (ands_any w1 M C last HCO.out w2b _ _ _ HU.out).mono ?_
       rintro e w3 ⟨p1, rfl, hv1, hc1, hL1, hd1, hb, hx1, hm1, he1⟩
       have HU1 := hide (HU.out.later hb)
       have HB3 := hide (bthen HB2.out hb)
       have HX1_1 := hide hx1
       have HP1 := hide (pok_of hv1 hc1 hL1 (by rw [← HV.out]; omega) (by rw [← HV.out]; omega) (ands_len HCO.out) HNB.out.1 hm1 he1)
       have HVL1 := hide (And.intro hv1 hL1)
       have HD1 := hide hd1
       clear hv1 hc1 hL1 hd1 hb hx1 hm1 he1
       unfold Prt.v
       go_wp2_with fail
       refine (bonds_any w1 M C last HCO.out w3 _ _ _ HU1.out).mono ?_
       rintro e w4 ⟨p2, rfl, hv2, hc2, hL2, hd2, hb, hx2, hm2, he2⟩
       have HU2 := hide (HU1.out.later hb)
       have HB4 := hide (bthen HB3.out hb)
       have HX1_2 := hide (HX1_1.out.later hb)
       have HX2_2 := hide hx2
       have HP2 := hide (pok_of hv2 hc2 hL2 (by omega) (by omega) (bonds_len HCO.out) HNB.out.2.1 hm2 he2)
       have HVL2 := hide (And.intro hv2 hL2)
       have HD2 := hide hd2
       clear hv2 hc2 hL2 hd2 hb hx2 hm2 he2
       unfold Prt.v
       go_wp2_with fail
       refine (begins_any w1 M C last HCO.out w4 _ _ _ HU2.out).mono ?_
       rintro e w5 ⟨p3, rfl, hv3, hc3, hL3, hd3, hb, hx3, hm3, he3⟩
       have HU3 := hide (HU2.out.later hb)
       have HB5 := hide (bthen HB4.out hb)
       have HX1_3 := hide (HX1_2.out.later hb)
       have HX2_3 := hide (HX2_2.out.later hb)
       have HX3_3 := hide hx3
       have HP3 := hide (pok_of hv3 hc3 hL3 (by omega) (by omega) (begins_len HCO.out HHG.out) HNB.out.2.2.2.1 hm3 he3)
       have HVL3 := hide (And.intro hv3 hL3)
       have HD3 := hide hd3
       clear hv3 hc3 hL3 hd3 hb hx3 hm3 he3
       unfold Prt.v
       go_wp2_with fail
       refine (holds_any w1 M C last HCO.out w5 _ _ _ HU3.out).mono ?_
       rintro e w6 ⟨p4, rfl, hv4, hc4, hL4, hd4, hb, hx4, hm4, he4⟩
       have HU4 := hide (HU3.out.later hb)
       have HB6 := hide (bthen HB5.out hb)
       have HX1_4 := hide (HX1_3.out.later hb)
       have HX2_4 := hide (HX2_3.out.later hb)
       have HX3_4 := hide (HX3_3.out.later hb)
       have HX4_4 := hide hx4
       have HP4 := hide (pok_of hv4 hc4 hL4 (by omega) (by omega) (holds_len HCO.out) HNB.out.2.2.1 hm4 he4)
       have HVL4 := hide (And.intro hv4 hL4)
       have HD4 := hide hd4
       clear hv4 hc4 hL4 hd4 hb hx4 hm4 he4
       unfold Prt.v
       go_wp2_with fail
       refine (bad_any w1 M C last HCO.out w6 _ _ _ HU4.out).mono ?_
       rintro e w7 ⟨p5, rfl, hv5, hc5, hL5, hd5, hb, hx5, hm5, he5⟩
       have HU5 := hide (HU4.out.later hb)
       have HB7 := hide (bthen HB6.out hb)
       have HX1_5 := hide (HX1_4.out.later hb)
       have HX2_5 := hide (HX2_4.out.later hb)
       have HX3_5 := hide (HX3_4.out.later hb)
       have HX4_5 := hide (HX4_4.out.later hb)
       have HX5_5 := hide hx5
       have HP5 := hide (pok_of hv5 hc5 hL5 (by omega) (by omega) (rfl) HNB.out.2.2.2.2 hm5 he5)
       have HVL5 := hide (And.intro hv5 hL5)
       have HD5 := hide hd5
       clear hv5 hc5 hL5 hd5 hb hx5 hm5 he5
       unfold Prt.v
       have hbP : Below w7.heap.size w7 (w7.alloc (.cells #[.int .i64 p1.vs, .int .i64 p1.cs, .func (.func p1.fn) #[] p1.caps, .int .i64 p2.vs, .int .i64 p2.cs, .func (.func p2.fn) #[] p2.caps, .int .i64 p3.vs, .int .i64 p3.cs, .func (.func p3.fn) #[] p3.caps, .int .i64 p4.vs, .int .i64 p4.cs, .func (.func p4.fn) #[] p4.caps, .int .i64 p5.vs, .int .i64 p5.cs, .func (.func p5.fn) #[] p5.caps] 45)) := bal (Below.refl _ _) _
       have hnw := HU5.out.new (Nat.le_refl w7.heap.size)
       have HPB : Hid (PrB (w7.alloc (.cells #[.int .i64 p1.vs, .int .i64 p1.cs, .func (.func p1.fn) #[] p1.caps, .int .i64 p2.vs, .int .i64 p2.cs, .func (.func p2.fn) #[] p2.caps, .int .i64 p3.vs, .int .i64 p3.cs, .func (.func p3.fn) #[] p3.caps, .int .i64 p4.vs, .int .i64 p4.cs, .func (.func p4.fn) #[] p4.caps, .int .i64 p5.vs, .int .i64 p5.cs, .func (.func p5.fn) #[] p5.caps] 45)) (.slice none 0 0) M w7.heap.size [p1, p2, p3, p4, p5]) := ⟨hnw.1, hnw.2, fun i hi => by
         match i, hi with
         | 0, _ => exact ⟨by simp [go_sem], by simp [go_sem], by simp [go_sem]⟩
         | 1, _ => exact ⟨by simp [go_sem], by simp [go_sem], by simp [go_sem]⟩
         | 2, _ => exact ⟨by simp [go_sem], by simp [go_sem], by simp [go_sem]⟩
         | 3, _ => exact ⟨by simp [go_sem], by simp [go_sem], by simp [go_sem]⟩
         | 4, _ => exact ⟨by simp [go_sem], by simp [go_sem], by simp [go_sem]⟩
         | k + 5, hi => simp at hi; omega⟩
       have hsv : sumV [p1, p2, p3, p4, p5] 5 = (steps + 1) * C.f := by
         show 0 + p1.vs + p2.vs + p3.vs + p4.vs + p5.vs = _
         rw [HVL1.out.1, HVL2.out.1, HVL3.out.1, HVL4.out.1, HVL5.out.1, HV.out]; omega
       have hml : madeL [p1, p2, p3, p4, p5] 5 = stepL C last true := by
         show p1.L ++ (p2.L ++ (p3.L ++ (p4.L ++ (p5.L ++ [])))) = _
         rw [HVL1.out.2, HVL2.out.2, HVL3.out.2, HVL4.out.2, HVL5.out.2]; simp [stepL]
       have hmd := made_parts w1 M C last [p1, p2, p3, p4, p5] (by simp) (by simp) (fun p hp => by
         simp only [List.mem_cons, List.mem_nil_iff, or_false] at hp
         rcases hp with rfl | rfl | rfl | rfl | rfl
         · exact HP1.out
         · exact HP2.out
         · exact HP3.out
         · exact HP4.out
         · exact HP5.out
         ) (fun c hc => by rw [show [p1, p2, p3, p4, p5].length = 5 from rfl, hml] at hc; have := stepL_short HCO.out hc; omega) (by rw [show [p1, p2, p3, p4, p5].length = 5 from rfl, hsv, HV2.out]; exact id) (fun k hk x hx => by
         match k, hk, hx with
         | 0, _, hx => rw [show [p1, p2, p3, p4, p5][0] = p1 from rfl, HD1.out] at hx; cases hx
         | 1, _, hx => rw [show [p1, p2, p3, p4, p5][1] = p2 from rfl, HD2.out] at hx; cases hx
         | 2, _, hx => rw [show [p1, p2, p3, p4, p5][2] = p3 from rfl, HD3.out] at hx; cases hx
         | 3, _, hx => rw [show [p1, p2, p3, p4, p5][3] = p4 from rfl, HD4.out] at hx; cases hx
         | 4, _, hx => rw [show [p1, p2, p3, p4, p5][4] = p5 from rfl, HD5.out] at hx; cases hx
         | k + 5, hk, _ => simp at hk; omega
         ) w7.heap.size _ (HU5.out.later hbP) HPB.out (fun p hp => by
         simp only [List.mem_cons, List.mem_nil_iff, or_false] at hp
         rcases hp with rfl | rfl | rfl | rfl | rfl
         · exact HX1_5.out.later hbP
         · exact HX2_5.out.later hbP
         · exact HX3_5.out.later hbP
         · exact HX4_5.out.later hbP
         · exact HX5_5.out.later hbP
         )
       rw [madE_of (V := (steps + 1) * C.f) (L := stepL C last true) hsv hml, ← HE3.out] at hmd
       rw [show [p1, p2, p3, p4, p5].length = 5 from rfl, hsv, hml] at hmd
       have HMD := hide hmd
       clear hmd hsv hml HPB hbP hnw HP1 HVL1 HP2 HVL2 HP3 HVL3 HP4 HVL4 HP5 HVL5 HX1_1 HX1_2 HX2_2 HX1_3 HX2_3 HX3_3 HX1_4 HX2_4 HX3_4 HX4_4 HX1_5 HX2_5 HX3_5 HX4_5 HX5_5
       go_wp2_with fail
       refine HMD.out.mono ?_
       rintro e w9 ⟨⟨pv, cv, rws, rfl, hn9, hcl9, hb9, hp9, hr9⟩, _⟩
       have HR9 := hide (r30 ((hb9.block _ hGl).trans HG.out))
       obtain ⟨g0, g1, f0, f1⟩ := HR9.out.1
       have HEND := hide (unO_of (V := (steps + 1) * C.f) (cv := cv) HB1.out hGl (by omega) hn9 hcl9 hb9 hp9 hr9 (.int .i64 (ofV E ((steps + 1) * C.f))) (.slice pv rws.length cv))
       clear hn9 hcl9 hb9 hp9 hr9 HMD
       generalize ofV E ((steps + 1) * C.f) = V9 at *
       go_wp2
       refine bodyPost_ret (res30 rfl _ rfl (HR9.out.2 _ _)) rfl ?_
       exact HEND.out
end Go.Proofs.YtjhkecnnhddhbaaGreatDoor

namespace Go.Proofs.YtjhkecnnhddhbaaGreatDoor
open Go.ChangeShapes Go.WideShapes Go.ChangeAt Go.RowKit Go.Deep
set_option maxRecDepth 100000
theorem own : ownKnob Tryz.prog.godebug = none := by kernel_rfl
theorem laidOut : laidOutB Tryz.prog = true := by kernel_rfl
theorem cells3 : Tryz.prog.cellsOf 3 = 1 := by kernel_rfl
theorem cells4 : Tryz.prog.cellsOf 4 = 1 := by kernel_rfl
theorem cells22 : Tryz.prog.cellsOf 22 = 1 := by kernel_rfl
theorem cells24 : Tryz.prog.cellsOf 24 = 2 := by kernel_rfl
theorem cells55 : Tryz.prog.cellsOf 75 = 2 := by kernel_rfl
theorem bytes3 : Tryz.prog.bytesOf 3 = 8 := by kernel_rfl
theorem bytes55 : Tryz.prog.bytesOf 75 = 16 := by kernel_rfl
theorem wf_of {n : Int} (h : (Lit.int .i64 n).wf = true) : Wf n := by
 unfold Lit.wf at h
 simp only [Bool.and_eq_true, decide_eq_true_eq] at h
 exact ⟨h.1, h.2⟩
section
variable {H : Type} {enc : TypeId × Value → H} {W : World} {base : Nat} {sp : Nat → Bool} {held : Bool} {fuel : Nat} {v : Value} {x : DataW H × List MemPlace}
theorem weigh {t e : TypeId} {es ss : List (DataW H)} (hu : Tryz.prog.underlying t = some (.slice e)) (h : ((DataW.slice es ss).weights Tryz.prog t).all (· ≤ reachBytes) = true) : es.length * Tryz.prog.bytesOf e ≤ reachBytes := by
 have h1 := List.all_eq_true.1 h ((es.length + ss.length) * Tryz.prog.bytesOf e) (by simp [DataW.weights, hu])
 have h2 : (es.length + ss.length) * Tryz.prog.bytesOf e ≤ reachBytes := by simpa using h1
 exact Nat.le_trans (Nat.mul_le_mul_right _ (Nat.le_add_right _ _)) h2
theorem in_ints (h : DataW.trod enc Tryz.prog W base sp held fuel 25 [v] = some x) :
   ∃ p c l, v = .slice p (List.length l) c ∧ IntsAt W p l ∧ ((x.1.weights Tryz.prog 25).all (· ≤ reachBytes) = true → l.length ≤ 17592186043904) := by
 rcases open_ints Tryz.underlying25 Tryz.underlying3 cells3 h with ⟨hcs, hx⟩ | ⟨a, len, cap, zs, hcs, _, hl, hm, hz, hx, hcell, _⟩
 · simp at hcs
   exact ⟨none, 0, [], hcs, fun h => by simp at h, fun _ => by simp⟩
 · simp at hcs
   have hlz : len ≤ zs.length := by rw [hz]; split <;> omega
   refine ⟨some a, cap, zs.take len, by rw [hcs, List.length_take, Nat.min_eq_left hlz], ?_, ?_⟩
   · intro h0
     rw [List.length_take, Nat.min_eq_left hlz] at h0
     obtain ⟨b, off, spot⟩ := a
     have hspot : spot = none := by simpa [Addr.add] using World.cell?_spot (hcell 0 (by omega))
     subst hspot
     refine ⟨b, off, rfl, fun i hi => ?_⟩
     have hi' : i < zs.length := by rw [List.length_take] at hi; omega
     have := hcell i hi'
     rw [Addr.add_lit] at this
     rw [this]
     simp [List.getD, List.getElem?_eq_getElem hi']
   · intro hw
     subst hx
     have := weigh Tryz.underlying25 hw
     rw [bytes3] at this
     simp only [lits, List.length_map, reachBytes] at this
     omega
theorem in_bools (h : DataW.trod enc Tryz.prog W base sp held fuel 88 [v] = some x) :
   ∃ p c l, v = .slice p (List.length l) c ∧ (p = none → c = 0) ∧ BoolsAt W p l ∧ l.length ≤ maxLen := by
 rcases open_slice1 Tryz.underlying88 cells4 h with ⟨hcs, hx⟩ | ⟨a, len, cap, m, n, V, D, Pl, hcs, _, hl, hm, hmm, hx, hcell⟩
 · simp at hcs
   exact ⟨none, 0, [], hcs, fun _ => rfl, fun h => by simp at h, by simp⟩
 · simp at hcs
   have hlm : len ≤ m := by rw [hmm]; split <;> omega
   obtain ⟨F, hF⟩ := choose_lt (α := Bool) (n := len) (p := fun i b => V i = .bool b) (fun i hi => by
     obtain ⟨b, h1, _⟩ := DataW.trod_bool Tryz.underlying4 (hcell i (by omega)).2
     exact ⟨b, by simpa using h1⟩)
   have hlen : ((List.range len).map F).length = len := by simp
   refine ⟨some a, cap, (List.range len).map F, by rw [hcs, hlen], (fun h => by cases h), ?_, by rw [hlen]; omega⟩
   intro h0
   rw [hlen] at h0
   obtain ⟨b, off, spot⟩ := a
   have hspot : spot = none := by simpa [Addr.add] using World.cell?_spot (hcell 0 (by omega)).1
   subst hspot
   refine ⟨b, off, rfl, fun i hi => ?_⟩
   have hi' : i < len := by rw [hlen] at hi; exact hi
   have := (hcell i (by omega)).1
   rw [Addr.add_lit, hF i hi'] at this
   rw [this, List.getElem_map, List.getElem_range]
theorem in_pairs (h : DataW.trod enc Tryz.prog W base sp held fuel 22 [v] = some x) :
   ∃ p c l, v = .slice p (List.length l) c ∧ (p = none → c = 0) ∧ PairsAt W p l ∧ WfP l ∧ ((x.1.weights Tryz.prog 22).all (· ≤ reachBytes) = true → l.length ≤ 8796093021952) := by
 rcases open_slice Tryz.underlying22 h with ⟨hcs, hx⟩ | ⟨a, len, cap, m, n, D, Pl, hcs, _, hl, hm, hmm, hx, hcell⟩
 · simp at hcs
   exact ⟨none, 0, [], hcs, fun _ => rfl, fun h => by simp at h, fun i h => by simp at h, fun _ => by simp⟩
 · simp at hcs
   have hlm : len ≤ m := by rw [hmm]; split <;> omega
   have key : ∀ i, i < len → ∃ q : Int × Int, W.cell? (a.add (i * 2 + 0)) = some (.int .i64 q.1) ∧ W.cell? (a.add (i * 2 + 1)) = some (.int .i64 q.2) ∧ Wf q.1 ∧ Wf q.2 := by
     intro i hi
     obtain ⟨cs, hc, ht⟩ := hcell i (by omega)
     rw [cells55] at hc
     obtain ⟨_, hlen, hat⟩ := World.cells?_some hc
     obtain ⟨y, q, _, _, _, hl2, hx2⟩ := DataW.trod_array Tryz.underlying75 ht
     match cs, hlen with
     | [w0, w1], _ =>
       have e0 := hx2 0 (by omega)
       have e1 := hx2 1 (by omega)
       rw [List.getElem?_eq_getElem (by omega)] at e0 e1
       obtain ⟨n0, h0, _, f0⟩ := DataW.trod_int Tryz.underlying3 e0
       obtain ⟨n1, h1, _, f1⟩ := DataW.trod_int Tryz.underlying3 e1
       simp [cells3] at h0 h1
       subst h0 h1
       have g : ∀ j, (a.add (i * 2)).add j = a.add (i * 2 + j) := fun j => Go.Deep.add_add _ _ _
       refine ⟨(n0, n1), ?_, ?_, wf_of f0, wf_of f1⟩
       · have := hat 0 (by omega); rw [g] at this; exact this
       · have := hat 1 (by omega); rw [g] at this; exact this
   obtain ⟨F, hF⟩ := choose_lt key
   have hlen : ((List.range len).map F).length = len := by simp
   refine ⟨some a, cap, (List.range len).map F, by rw [hcs, hlen], (fun h => by cases h), ?_, ?_, ?_⟩
   · intro h0
     rw [hlen] at h0
     obtain ⟨b, off, spot⟩ := a
     have hspot : spot = none := by simpa [Addr.add] using World.cell?_spot (hF 0 (by omega)).1
     subst hspot
     refine ⟨b, off, rfl, fun i hi => ?_⟩
     have hi' : i < len := by rw [hlen] at hi; exact hi
     obtain ⟨e0, e1, _⟩ := hF i hi'
     rw [Addr.add_lit] at e0 e1
     rw [List.getElem_map, List.getElem_range]
     exact ⟨e0, by rw [Nat.add_assoc]; exact e1⟩
   · intro i hi
     have hi' : i < len := by rw [hlen] at hi; exact hi
     rw [List.getElem_map, List.getElem_range]
     exact (hF i hi').2.2
   · intro hw
     subst hx
     have := weigh Tryz.underlying22 hw
     rw [bytes55] at this
     simp only [List.length_map, List.length_range, reachBytes] at this
     rw [hlen]
     omega
end
end Go.Proofs.YtjhkecnnhddhbaaGreatDoor

namespace Go.Proofs.YtjhkecnnhddhbaaGreatDoor
open Go.ChangeShapes Go.WideShapes Go.ChangeAt Go.RowKit Go.Deep
set_option maxRecDepth 100000
theorem cells25 : Tryz.prog.cellsOf 25 = 1 := by kernel_rfl
theorem cells27 : Tryz.prog.cellsOf 27 = 8 := by kernel_rfl
theorem eight_cells {α : Type} {cs : Array α} (h : cs.size = 8) : ∃ c0 c1 c2 c3 c4 c5 c6 c7, cs = #[c0, c1, c2, c3, c4, c5, c6, c7] := by
 obtain ⟨l⟩ := cs
 match l, h with
 | [a, b, c, d, e, f, g, i], _ => exact ⟨a, b, c, d, e, f, g, i, rfl⟩
theorem bulk_pos {H : Type} (d : DataW H) : 1 ≤ Rows.uptoBulk d := by
 cases d with
 | lit l => cases l <;> simp [Rows.uptoBulk]
 | _ => simp [Rows.uptoBulk]
theorem bulk_len {H : Type} (es : List (DataW H)) : es.length ≤ Rows.uptoBulkAll es := by
 induction es with
 | nil => simp
 | cons d r ih =>
   have := bulk_pos d
   simp only [Rows.uptoBulkAll, List.length_cons]
   omega
theorem bulk_slice {H : Type} (es ss : List (DataW H)) : es.length ≤ Rows.uptoBulk (.slice es ss) := by
 have := bulk_len es
 simp only [Rows.uptoBulk]
 omega
theorem in_ints_bulk {H : Type} {enc : TypeId × Value → H} {W : World} {base : Nat} {sp : Nat → Bool} {held : Bool} {fuel : Nat} {v : Value} {x : DataW H × List MemPlace} (h : DataW.trod enc Tryz.prog W base sp held fuel 25 [v] = some x)
   {p : Option Addr} {n c : Nat} (hv : v = .slice p n c) : n ≤ Rows.uptoBulk x.1 := by
 rcases open_ints Tryz.underlying25 Tryz.underlying3 cells3 h with ⟨hcs, hx⟩ | ⟨a, len, cap, zs, hcs, _, hl, hm, hz, hx, hcell, _⟩
 · simp at hcs
   rw [hcs] at hv
   cases hv
   exact Nat.zero_le _
 · simp at hcs
   rw [hcs] at hv
   cases hv
   have hlz : n ≤ zs.length := by rw [hz]; split <;> omega
   subst hx
   refine Nat.le_trans ?_ (bulk_slice _ _)
   simp only [lits, List.length_map, List.length_take]
   omega
set_option maxRecDepth 100000 in
theorem in_circuit {H : Type} {enc : TypeId × Value → H} {W : World} {r : Reach} {b0 base : Nat} {sp : Nat → Bool} {held : Bool} {v : Value} {d : DataW H} {p : List MemPlace}
   (hv : Value.okWide Tryz.prog W r b0 27 v) (h : DataW.Trod enc Tryz.prog W base sp held 27 v d p) :
   ∃ (ins : Int) (q : Option Addr) (c : Nat) (ps : List (Int × Int)) (a s : Int) (i n b g : Sl), v = circ ins q (List.length ps) c a s i n b g ∧ CirAt W q ps i n b g ∧ WfP ps ∧ Wf a ∧ Wf s ∧
     ((d.weights Tryz.prog 27).all (· ≤ reachBytes) = true → ps.length ≤ 8796093021952 ∧ i.ns.length ≤ 17592186043904 ∧ n.ns.length ≤ 17592186043904 ∧ b.ns.length ≤ 17592186043904 ∧ g.ns.length ≤ 17592186043904) ∧ b.ns.length ≤ Rows.uptoBulk d ∧ g.ns.length ≤ Rows.uptoBulk d := by
 obtain ⟨cs, rfl, hsz⟩ := okWide_struct Tryz.underlying27 hv
 obtain ⟨v0, v1, v2, v3, v4, v5, v6, v7, rfl⟩ := eight_cells (hsz.trans cells27)
 obtain ⟨fuel, hf⟩ := h
 simp only [Value.cells] at hf
 obtain ⟨y, m, _, hxy, _, hl, hx⟩ := DataW.trod_struct Tryz.underlying27 hf
 have hl2 : y.length = 7 := hl
 match y, hl2 with
 | [y0, y1, y2, y3, y4, y5, y6], _ =>
   have e0 := hx 0 _ rfl
   have e1 := hx 1 _ rfl
   have e2 := hx 2 _ rfl
   have e3 := hx 3 _ rfl
   have e4 := hx 4 _ rfl
   have e5 := hx 5 _ rfl
   have e6 := hx 6 _ rfl
   simp [cells24, cells3, cells25] at e0 e1 e2 e3 e4 e5 e6
   obtain ⟨z, m2, _, hzy, _, hl', hx'⟩ := DataW.trod_struct Tryz.underlying24 e0
   have hl3 : z.length = 2 := hl'
   match z, hl3 with
   | [z0, z1], _ =>
     have g0 := hx' 0 _ rfl
     have g1 := hx' 1 _ rfl
     simp [cells3] at g0
     simp [cells22] at g1
     obtain ⟨n0, k0, _⟩ := DataW.trod_int Tryz.underlying3 g0
     obtain ⟨n1, k1, _, f1⟩ := DataW.trod_int Tryz.underlying3 e1
     obtain ⟨n2, k2, _, f2⟩ := DataW.trod_int Tryz.underlying3 e2
     simp at k0 k1 k2
     subst k0 k1 k2
     obtain ⟨a1, c1, ps, rfl, _, H1, F1, L1⟩ := in_pairs g1
     obtain ⟨a3, c3, l3, rfl, H3, L3⟩ := in_ints e3
     obtain ⟨a4, c4, l4, rfl, H4, L4⟩ := in_ints e4
     obtain ⟨a5, c5, l5, h5, H5, L5⟩ := in_ints e5
     have K5 := in_ints_bulk e5 h5
     subst h5
     obtain ⟨a6, c6, l6, h6, H6, L6⟩ := in_ints e6
     have K6 := in_ints_bulk e6 h6
     subst h6
     have hd : d = .agg [y0.1, y1.1, y2.1, y3.1, y4.1, y5.1, y6.1] := by simpa using congrArg Prod.fst hxy
     have hz : y0.1 = .agg [z0.1, z1.1] := by simpa using congrArg Prod.fst hzy
     refine ⟨n0, a1, c1, ps, n1, n2, ⟨a3, l3, c3⟩, ⟨a4, l4, c4⟩, ⟨a5, l5, c5⟩, ⟨a6, l6, c6⟩, rfl, ⟨H1, H3, H4, H5, H6⟩, F1, wf_of f1, wf_of f2, fun hs => ?_, ?_, ?_⟩
     rotate_left
     · rw [hd]; simp only [Rows.uptoBulk, Rows.uptoBulkAll]; omega
     · rw [hd]; simp only [Rows.uptoBulk, Rows.uptoBulkAll]; omega
     rw [hd, hz] at hs
     simp only [DataW.weights, Tryz.underlying27, Tryz.underlying24, List.map_cons, List.map_nil, DataW.weightsEach, List.all_append, Bool.and_eq_true] at hs
     obtain ⟨⟨_, s1, _⟩, _, _, s3, s4, s5, s6, _⟩ := hs
     exact ⟨L1 s1, L3 s3, L4 s4, L5 s5, L6 s6⟩
end Go.Proofs.YtjhkecnnhddhbaaGreatDoor

namespace Go.Proofs.YtjhkecnnhddhbaaGreatDoor
open Go.RowKit Go.Maps Go.WideMaps
set_option maxRecDepth 100000
def numP (x off : Int) : Int := if odd x = true then -(x / 2 + off) else x / 2 + off
theorem numP_at (f : Int) (t : Nat) (x : Int) (hx : 2 ≤ x) : numP x (t * f) = numL (atL f t x) := by
 have h1 : ¬ x / 2 = 0 := by omega
 have h2 : (x + 2 * (t * f)) / 2 = x / 2 + t * f := by omega
 have h3 : odd (x + 2 * (t * f)) = odd x := by unfold odd; rw [show (x + 2 * ((t : Int) * f)) % 2 = x % 2 by omega]
 unfold numP numL atL
 rw [if_neg h1, h2, h3]
set_option maxHeartbeats 1000000 in
theorem numP_any (x off : Int) (h : 0 ≤ x) (h2 : x ≤ 10000000) (h3 : 0 ≤ off) (h4 : off ≤ 10000000) (w : World) :
   Calls Tryz.prog 26 #[.int .i64 x, .int .i64 off] w fun e w' => e = .returned (.int .i64 (numP x off)) ∧ w' = w := by
 have HE : Hid (numP x off = if odd x = true then -(x / 2 + off) else x / 2 + off) := rfl
 generalize numP x off = R at *
 have wa := wrap_id (x := x / 2 + off) (by omega) (by omega)
 have wn := wrap_id (x := -(x / 2 + off)) (by omega) (by omega)
 by_cases ho : x % 2 = 1
 · have HX : Hid (R = -(x / 2 + off)) := by unfold Hid; rw [HE.out, if_pos (by simpa [odd] using ho)]
   go_enter Tryz.func26, Tryz.ntmps26
   go_wp2
   go_ret
   exact ⟨ret_int HX.out.symm, rfl⟩
 · have HX : Hid (R = x / 2 + off) := by unfold Hid; rw [HE.out, if_neg (by simpa [odd] using ho)]
   have hb : (x % 2 == 1) = false := by simpa using ho
   go_enter Tryz.func26, Tryz.ntmps26
   go_wp2
   go_ret
   exact ⟨ret_int HX.out.symm, rfl⟩
set_option maxHeartbeats 2000000 in
theorem hasP_any (x : Int) (l : List Int) (q : Option Addr) (qc : Nat) (hl : l.length ≤ 17592186044416) (w : World) (hI : IntsAt w q l) :
   Calls Tryz.prog 28 #[.slice q l.length qc, .int .i64 x] w fun e w' => e = .returned (.bool (decide (x ∈ l))) ∧ w' = w := by
 have HI := hide hI
 clear hI
 have HD : Hid (∀ b : Bool, (b = true ↔ x ∈ l) → decide (x ∈ l) = b) := fun b h => by rw [Bool.eq_iff_iff]; simp [h]
 generalize decide (x ∈ l) = R at *
 go_enter Tryz.func28, Tryz.ntmps28
 go_wp2
 go_loopw [5] (fun i wr => ∃ k : Nat, k ≤ l.length ∧ i = .int .i64 k ∧ Hid (x ∉ l.take k) ∧ wr = w) (fun i _ => l.length - (intOf i).toNat)
 case atStart => exact ⟨0, Nat.zero_le _, rfl, by simp [Hid], rfl⟩
 case round =>
   obtain ⟨k, hk, rfl, HN, hwr⟩ := hrel
   obtain rfl : w = wr := hwr.symm
   by_cases hlt : k < l.length
   · obtain ⟨b, off, rfl, hcs⟩ := HI.out (by omega)
     have c0 := hcs k hlt
     have hki : (k : Int) < (l.length : Int) := by omega
     have HM : Hid (l[k] ∈ l) := List.getElem_mem hlt
     have HS : Hid (l.take (k + 1) = l.take k ++ [l[k]]) := List.take_succ_eq_append_getElem hlt
     clear hcs
     generalize l[k] = y at *
     by_cases hy : y = x
     · subst hy
       have HE : Hid (R = true) := HD.out true ⟨fun _ => HM.out, fun _ => rfl⟩
       clear HN HM HS HD
       go_wp2
       go_ret
       exact ⟨ret_bool HE.out.symm, rfl⟩
     · have hyb : (y == x) = false := by simpa using hy
       have HN2 : Hid (x ∉ l.take (k + 1)) := by
         unfold Hid
         rw [HS.out]
         intro h
         rcases List.mem_append.1 h with h | h
         · exact HN.out h
         · exact hy ((by simpa using h : x = y).symm)
       clear HN HM HS hy
       go_wp2
       go_roundw
       case rel => exact ⟨k + 1, by omega, by go_num, HN2, trivial⟩
       case measure => simp [intOf]; omega
   · obtain rfl : k = l.length := by omega
     have HE : Hid (R = false) := HD.out false ⟨(fun h => by cases h), fun h => absurd (by rw [List.take_length]; exact h) HN.out⟩
     clear HN HD
     go_wp2
     go_ret
     exact ⟨ret_bool HE.out.symm, rfl⟩
set_option maxHeartbeats 2000000 in
theorem bit_any (f a : Int) (t i : Nat) (ht0 : 0 ≤ (t : Int) * f) (ht : (t : Int) * f ≤ 10000000) (ha : 0 ≤ a) (ha2 : a ≤ 1000) (hi : i ≤ 1000) (F B : Nat) (w : World) (c0 : w.cell? ⟨F, 0, none⟩ = some (.int .i64 f)) (c2 : w.cell? ⟨B, 2, none⟩ = some (.int .i64 a)) :
   Calls Tryz.prog 24 #[.int .i64 t, .int .i64 i, .pointer (some ⟨F, 0, none⟩), .pointer (some ⟨B, 0, none⟩)] w fun e w' => e = .returned (.int .i64 (t * f + 1 + a + i)) ∧ w' = w := by
 have w1 := wrap_id (x := (t : Int) * f) (by omega) (by omega)
 have w2 := wrap_id (x := (t : Int) * f + 1) (by omega) (by omega)
 have w3 := wrap_id (x := (t : Int) * f + 1 + a) (by omega) (by omega)
 have w4 := wrap_id (x := (t : Int) * f + 1 + a + (i : Int)) (by omega) (by omega)
 go_enter Tryz.func24, Tryz.ntmps24
 go_wp2
 go_ret
 exact ⟨rfl, rfl⟩
end Go.Proofs.YtjhkecnnhddhbaaGreatDoor

namespace Go.Proofs.YtjhkecnnhddhbaaGreatDoor
open Go.RowKit Go.Maps Go.WideMaps
set_option maxRecDepth 100000
set_option maxHeartbeats 4000000 in
theorem addP_any (base M : Nat) (v : Value) (vars : Int) (rs : List Row) (hrs : rs.length ≤ 1000000000) (l : List Int) (q : Option Addr) (qc : Nat) (w : World) (hbs : base ≤ w.heap.size) (hmk : Cm w base M v vars rs) (hI : IntsAt w q l) (hq : ∀ a, q = some a → a.block ≠ M ∧ v.ownBlock ≠ some a.block ∧ a.block < w.heap.size ∧ base ≤ a.block) :
   Calls Tryz.prog 23 #[.slice q l.length qc, .pointer (some ⟨M, 0, none⟩)] w fun e w' => e = .returned (.tuple #[]) ∧ ∃ v' r, r.ns = l ∧ Cm w' base M v' vars (rs ++ [r]) ∧ Below base w w' ∧ Kp M w v w' v' := by
 obtain ⟨i0, hi, hz0, hz1, hz2⟩ := info_parts infoR
 obtain ⟨pv, cv, rfl, _⟩ := owns_rows hmk.row
 have m1 := hmk.c1
 have f1 := hmk.f1
 have HMK := hide hmk
 have HI := hide hI
 have HQ := hide hq
 have HIN := hide (And.intro hi (And.intro hz0 (And.intro hz1 hz2)))
 have hlt0 := World.block_lt_of_cell? _ _ hmk.c1
 simp only at hlt0
 clear hI hmk hi hz0 hz1 hz2 hq
 go_enter Tryz.func23, Tryz.ntmps23
 go_wp2_with (at_builtin; refine wpList_append_lies _ rfl _ _ 28 rfl base 25 i0 (.slice none 0 0) 1 24 Tryz.underlying28 HIN.out.1 HIN.out.2.1 HIN.out.2.2.1 HIN.out.2.2.2 rfl (by decide) (.slice pv rs.length cv) rs.length (rs.map Row.v) rfl (HMK.out.row.alloc _) ⟨w.heap.size, 0, none⟩ 1 1 [(Row.mk q l qc).v] rfl rfl ?d0 ?d1 (by omega) ?d2 ?d3 ?d4 _ rfl ?_)
 case d0 => exact one_news ⟨q, l, qc⟩ w
 case d1 => exact one_cell ⟨q, l, qc⟩
 case d2 => unfold maxLen; omega
 case d3 => omega
 case d4 => simp; omega
 intro g cap w2 hown2 hg2 hat2 hlt2
 have g1 := hg2.cell (a := ⟨M, 1, none⟩) (past1 m1 _) (fun e => HMK.out.nv e.symm)
 have f2 : w2.frozen? ⟨M, 1, none⟩ = false := (grown_frozen hg2 (past1 m1 _) (fun e => HMK.out.nv e.symm)).trans (((bal (Below.refl _ _) _).frozen (World.block_lt_of_cell? _ _ m1)).trans f1)
 have hmem := add_memC (r := ⟨q, l, qc⟩) hbs HMK.out HI.out HQ.out hg2 hown2 (by simpa using hat2)
 have HMM := hide hmem
 clear hmem
 go_wp2
 go_end0
 exact ⟨rfl, _, _, rfl, HMM.out.1, HMM.out.2.1 _ (Below.refl _ _), HMM.out.2.2⟩
end Go.Proofs.YtjhkecnnhddhbaaGreatDoor

namespace Go.Proofs.YtjhkecnnhddhbaaGreatDoor
open Go.RowKit Go.Maps Go.WideMaps
set_option maxRecDepth 100000
def mustP (x off : Int) : List (List Int) := if x = 1 then [] else if x = 0 then [[]] else [[numP x off]]
def NewRows (w : World) (L : List (List Int)) (e : Ending) (w' : World) : Prop :=
 ∃ (p : Option Addr) (cap : Nat) (rs : List Row), e = .returned (.slice p rs.length cap) ∧ rs.map Row.ns = L ∧ RowsAt w' p rs ∧ InAt w' rs ∧
   (∀ r ∈ rs, ∀ a, r.at' = some a → w.heap.size ≤ a.block ∧ a.block < w'.heap.size) ∧ (∀ a, p = some a → w.heap.size ≤ a.block ∧ a.block < w'.heap.size) ∧ Below w.heap.size w w'
theorem newRows_nil (w : World) : NewRows w [] (.returned (.slice none 0 0)) w :=
 ⟨none, 0, [], rfl, rfl, fun h => by simp at h, fun _ h => (by cases h), fun _ h => (by cases h), fun _ h => (by cases h), Below.refl _ _⟩
theorem newRows_void (w : World) (ty : TypeId) : NewRows w [[]] (.returned (.slice (some ⟨w.heap.size, 0, none⟩) 1 1)) (w.alloc (.cells #[.slice none 0 0] ty)) := by
 refine ⟨_, _, [⟨none, [], 0⟩], rfl, rfl, fun _ => ⟨_, _, rfl, fun i hi => ?_⟩, fun r h => ?_, fun r h a ha => ?_, fun a ha => ?_, bal (Below.refl _ _) _⟩
 · match i, hi with
   | 0, _ => simp [go_sem, Row.v]
 · simp at h; subst h; exact fun h => by simp at h
 · simp at h; subst h; cases ha
 · cases ha; simp
theorem newRows_one (w : World) (x : Int) (t1 t2 : TypeId) :
   NewRows w [[x]] (.returned (.slice (some ⟨w.heap.size + 1, 0, none⟩) 1 1)) ((w.alloc (.cells #[.int .i64 x] t1)).alloc (.cells #[.slice (some ⟨w.heap.size, 0, none⟩) 1 1] t2)) := by
 refine ⟨_, _, [⟨some ⟨w.heap.size, 0, none⟩, [x], 1⟩], rfl, rfl, fun _ => ⟨_, _, rfl, fun i hi => ?_⟩, fun r h => ?_, fun r h a ha => ?_, fun a ha => ?_, bal (bal (Below.refl _ _) _) _⟩
 · match i, hi with
   | 0, _ => simp [go_sem, Row.v]
 · simp at h; subst h
   refine fun _ => ⟨_, _, rfl, fun i hi => ?_⟩
   match i, hi with
   | 0, _ => simp [go_sem]
 · simp at h; subst h; cases ha; simp; omega
 · cases ha; simp
set_option maxHeartbeats 2000000 in
theorem mustP_any (x off : Int) (h : 0 ≤ x) (h2 : x ≤ 10000000) (h3 : 0 ≤ off) (h4 : off ≤ 10000000) (w : World) :
   Calls Tryz.prog 27 #[.int .i64 x, .int .i64 off] w (NewRows w (mustP x off)) := by
 have HN := hide (numP_any x off h h2 h3 h4)
 have HE : Hid (mustP x off = if x = 1 then [] else if x = 0 then [[]] else [[numP x off]]) := rfl
 generalize mustP x off = R at *
 by_cases h1 : x = 1
 · have HX : Hid (R = []) := by unfold Hid; rw [HE.out, if_pos h1]
   subst h1
   clear HN HE
   go_enter Tryz.func27, Tryz.ntmps27
   go_wp2
   go_ret
   rw [HX.out]
   exact newRows_nil w
 · by_cases h0 : x = 0
   · have HX : Hid (R = [[]]) := by unfold Hid; rw [HE.out, if_neg h1, if_pos h0]
     subst h0
     clear HN HE
     go_enter Tryz.func27, Tryz.ntmps27
     go_wp2
     go_ret
     rw [HX.out]
     exact newRows_void w _
   · have HX : Hid (R = [[numP x off]]) := by unfold Hid; rw [HE.out, if_neg h1, if_neg h0]
     have hb1 : (x == 1) = false := by simpa using h1
     have hb0 : (x == 0) = false := by simpa using h0
     clear HE h1 h0
     generalize numP x off = y at *
     go_enter Tryz.func27, Tryz.ntmps27
     go_wp2_with fail
     refine (HN.out _).mono ?_
     rintro e w1 ⟨rfl, hw1⟩
     obtain rfl : w = w1 := hw1.symm
     clear hw1 HN
     go_wp2
     go_ret
     rw [HX.out]
     exact newRows_one w y _ _
end Go.Proofs.YtjhkecnnhddhbaaGreatDoor

namespace Go.Proofs.YtjhkecnnhddhbaaGreatDoor
open Go.RowKit Go.Maps Go.WideMaps
set_option maxRecDepth 100000
structure Gr (w : World) (base : Nat) (v : Value) (rs : List Row) : Prop where
 row : w.ownsRow base 25 1 v rs.length (rs.map Row.v)
 inn : InAt w rs
 far : ∀ r ∈ rs, ∀ a, r.at' = some a → v.ownBlock ≠ some a.block ∧ a.block < w.heap.size ∧ base ≤ a.block
theorem gr_nil (w : World) (base : Nat) : Gr w base (.slice none 0 0) [] :=
 ⟨World.ownsRow_nil _ _ _ _, (fun r hr => by cases hr), (fun r hr => by cases hr)⟩
theorem gr_many {w w2 : World} {base g cap : Nat} {v : Value} {rs rs2 : List Row} (h : Gr w base v rs) (hr : InAt w rs2)
   (hrf : ∀ r ∈ rs2, ∀ a, r.at' = some a → v.ownBlock ≠ some a.block ∧ a.block < w.heap.size ∧ base ≤ a.block) (hg : w.grownBy w2 v.ownBlock)
   (hrow : w2.ownsRow base 25 1 (.slice (some ⟨g, 0, none⟩) (rs.length + rs2.length) cap) (rs.length + rs2.length) (rs.map Row.v ++ rs2.map Row.v)) (hat : v.ownBlock = some g ∨ w.heap.size ≤ g) :
   Gr w2 base (.slice (some ⟨g, 0, none⟩) (rs.length + rs2.length) cap) (rs ++ rs2) := by
 have hIn : ∀ q : Row, IntsAt w q.at' q.ns → (∀ a, q.at' = some a → v.ownBlock ≠ some a.block) → IntsAt w2 q.at' q.ns := fun q h1 h2 =>
   h1.grownBy hg (fun a ha e => h2 a ha e.symm)
 have hsz2 : w.heap.size ≤ w2.heap.size := hg.size
 have hFar : ∀ q : Row, (∀ a, q.at' = some a → v.ownBlock ≠ some a.block ∧ a.block < w.heap.size ∧ base ≤ a.block) → ∀ a, q.at' = some a → Value.ownBlock (.slice (some ⟨g, 0, none⟩) (rs.length + rs2.length) cap) ≠ some a.block ∧ a.block < w2.heap.size ∧ base ≤ a.block := fun q h a ha => by
   obtain ⟨h2, h3, h5⟩ := h a ha
   refine ⟨?_, by omega, h5⟩
   intro e
   have e' : g = a.block := by simpa [Value.ownBlock] using e
   rcases hat with h4 | h4
   · exact h2 (by rw [h4, e'])
   · omega
 refine ⟨?_, ?_, ?_⟩
 · rw [List.length_append, List.map_append]; exact hrow
 · intro q hq
   rcases List.mem_append.1 hq with k | k
   · exact hIn q (h.inn q k) (fun a ha => (h.far q k a ha).1)
   · exact hIn q (hr q k) (fun a ha => (hrf q k a ha).1)
 · intro q hq
   rcases List.mem_append.1 hq with k | k
   · exact hFar q (h.far q k)
   · exact hFar q (hrf q k)
theorem Gr.alloc {w : World} {base : Nat} {v : Value} {rs : List Row} (h : Gr w base v rs) (o : Obj) : Gr (w.alloc o) base v rs :=
 ⟨h.row.alloc o, h.inn.later (bal (Below.refl _ _) o), fun r hr a ha => by
   obtain ⟨h1, h2, h3⟩ := h.far r hr a ha
   exact ⟨h1, by simp; omega, h3⟩⟩
def andOne (n a b : Int) : List (List Int) := [[-n, a], [-n, b], [n, -a, -b]]
def andP (ins off : Int) (ps : List (Int × Int)) : Nat → List (List Int)
 | 0 => []
 | k + 1 => andP ins off ps k ++ match ps[k]? with
   | some q => andOne (1 + ins + k + off) (numP q.1 off) (numP q.2 off)
   | none => []
def lay3 (w : World) (n a b : Int) : World :=
 (((w.alloc (.cells #[.int .i64 (-n), .int .i64 a] 3)).alloc (.cells #[.int .i64 (-n), .int .i64 b] 3)).alloc (.cells #[.int .i64 n, .int .i64 (-a), .int .i64 (-b)] 3)).alloc
   (.cells #[.slice (some ⟨w.heap.size, 0, none⟩) 2 2, .slice (some ⟨w.heap.size + 1, 0, none⟩) 2 2, .slice (some ⟨w.heap.size + 1 + 1, 0, none⟩) 3 3] 25)
def rows3 (H : Nat) (n a b : Int) : List Row := [⟨some ⟨H, 0, none⟩, [-n, a], 2⟩, ⟨some ⟨H + 1, 0, none⟩, [-n, b], 2⟩, ⟨some ⟨H + 1 + 1, 0, none⟩, [n, -a, -b], 3⟩]
theorem rows3_ns (H : Nat) (n a b : Int) : (rows3 H n a b).map Row.ns = andOne n a b := rfl
theorem lay3_size (w : World) (n a b : Int) : (lay3 w n a b).heap.size = w.heap.size + 4 := by simp [lay3]
theorem lay3_below (w : World) (n a b : Int) : Below w.heap.size w (lay3 w n a b) := bal (bal (bal (bal (Below.refl _ _) _) _) _) _
theorem lay3_inn (w : World) (n a b : Int) : InAt (lay3 w n a b) (rows3 w.heap.size n a b) := by
 intro r hr
 simp only [rows3, List.mem_cons, List.mem_nil_iff, or_false] at hr
 rcases hr with rfl | rfl | rfl
 · refine fun _ => ⟨_, _, rfl, fun i hi => ?_⟩
   match i, hi with
   | 0, _ => simp [lay3, go_sem]
   | 1, _ => simp [lay3, go_sem]
 · refine fun _ => ⟨_, _, rfl, fun i hi => ?_⟩
   match i, hi with
   | 0, _ => simp [lay3, go_sem]
   | 1, _ => simp [lay3, go_sem]
 · refine fun _ => ⟨_, _, rfl, fun i hi => ?_⟩
   match i, hi with
   | 0, _ => simp [lay3, go_sem]
   | 1, _ => simp [lay3, go_sem]
   | 2, _ => simp [lay3, go_sem]
theorem lay3_far (w : World) (n a b : Int) : ∀ r ∈ rows3 w.heap.size n a b, ∀ q, r.at' = some q → w.heap.size ≤ q.block ∧ q.block < w.heap.size + 3 := by
 intro r hr q hq
 simp only [rows3, List.mem_cons, List.mem_nil_iff, or_false] at hr
 rcases hr with rfl | rfl | rfl <;> cases hq <;> simp <;> omega
theorem lay3_news (w : World) (n a b : Int) : ∀ j u, ((rows3 w.heap.size n a b).map Row.v)[j]? = some u → (lay3 w n a b).cell? ((⟨w.heap.size + 1 + 1 + 1, 0, none⟩ : Addr).add j) = some u := fun j u hj => by
 match j, hj with
 | 0, hj => simp [rows3, Row.v] at hj; subst hj; simp [lay3, go_sem, Addr.add]
 | 1, hj => simp [rows3, Row.v] at hj; subst hj; simp [lay3, go_sem, Addr.add]
 | 2, hj => simp [rows3, Row.v] at hj; subst hj; simp [lay3, go_sem, Addr.add]
theorem rows3_cell (H : Nat) (n a b : Int) : ∀ u ∈ (rows3 H n a b).map Row.v, u.oneCell' = true := fun u hu => by
 simp only [rows3, Row.v, List.map_cons, List.map_nil, List.mem_cons, List.mem_nil_iff, or_false] at hu
 rcases hu with rfl | rfl | rfl <;> rfl
theorem Gr.lay3 {w : World} {base : Nat} {v : Value} {rs : List Row} (h : Gr w base v rs) (n a b : Int) : Gr (lay3 w n a b) base v rs := (((h.alloc _).alloc _).alloc _).alloc _
theorem gr_three {w w2 : World} {base g cap : Nat} {v : Value} {rs : List Row} (hbs : base ≤ w.heap.size) (h : Gr w base v rs) (n a b : Int) (hg : (lay3 w n a b).grownBy w2 v.ownBlock)
   (hrow : w2.ownsRow base 25 1 (.slice (some ⟨g, 0, none⟩) (rs.length + 3) cap) (rs.length + 3) (rs.map Row.v ++ (rows3 w.heap.size n a b).map Row.v)) (hat : v.ownBlock = some g ∨ g = w.heap.size + 4) :
   Gr w2 base (.slice (some ⟨g, 0, none⟩) (rs.length + 3) cap) (rs ++ rows3 w.heap.size n a b) :=
 gr_many (rs2 := rows3 w.heap.size n a b) (h.lay3 n a b) (lay3_inn w n a b) (fun r hr q hq => by
   have h1 := lay3_far w n a b r hr q hq
   refine ⟨fun e => ?_, by rw [lay3_size]; omega, by omega⟩
   have := (h.row.lt _ e).2
   omega) hg hrow (hat.imp id (fun e => by rw [lay3_size, e]; exact Nat.le_refl _))
theorem gr_three_below {w0 w w2 : World} {base : Nat} {v : Value} {rs : List Row} (h : Gr w base v rs) (n a b : Int) (hg : (lay3 w n a b).grownBy w2 v.ownBlock) (hb : Below base w0 w) (hbs : base ≤ w.heap.size) : Below base w0 w2 :=
 (hb.trans ((lay3_below w n a b).mono hbs)).grown hg (by rw [lay3_size]; omega) (fun k hk => (h.row.lt k hk).1)
theorem gr_new {w w' : World} {base : Nat} {v : Value} {rs : List Row} (h : Gr w' base v rs) (hb : Below w.heap.size w w') (hbs : w.heap.size ≤ base) : NewRows w (rs.map Row.ns) (.returned v) w' := by
 have hlt := h.row.lt
 obtain ⟨p, cap, rfl, hr⟩ := owns_rows h.row
 refine ⟨p, cap, rs, rfl, rfl, hr, h.inn, fun r hr a ha => ?_, fun a ha => ?_, hb⟩
 · obtain ⟨_, h2, h3⟩ := h.far r hr a ha
   exact ⟨by omega, h2⟩
 · subst ha
   have := hlt a.block (by simp [Value.ownBlock])
   omega
end Go.Proofs.YtjhkecnnhddhbaaGreatDoor
