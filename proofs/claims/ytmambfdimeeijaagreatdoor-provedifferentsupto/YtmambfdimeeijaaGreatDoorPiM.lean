/- A board: a clause's watch is turned to another of its numbers, if there is one. -/
import Derived.Test.YtmambfdimeeijaaGreatDoorPdM
import Derived.Deep.CutRange
namespace Go.Proofs.YtmambfdimeeijaaGreatDoor.Pf
open Go.RowKit Go.Maps Go.WideMaps
set_option maxRecDepth 100000
theorem enter94 (args : Array Value) (w : World) : (callFunc 245 args).run Tryz.prog w = .ok (.enter 245 args) w := by kernel_rfl
def Bd.turn (B : Bd) (i : Nat) (nt : Int) : Bd := match B.turnC nt (B.cl.getD i []) with
 | (c', some x) => { B with cl := B.cl.set i c', wt := upd B.wt x (B.wt x ++ [(i, c'.getD 0 0)]) }
 | (c', none) => { B with cl := B.cl.set i c' }
section
variable {w : World} {X : Nat → Prop} {R S W nS nW : Nat} {vc vs : Value} {wk : Int} {cg cc : Nat → Nat} {wv : Int → Value} {B : Bd}
theorem Mb.rowAt (h : Mb w X R S W nS nW vc vs wk cg cc wv B) {i : Nat} (hi : i < B.cl.length) : ∃ g cap, vc = .slice (some ⟨g, 0, none⟩) B.cl.length cap ∧ w.cell? ⟨g, i, none⟩ = some (.slice (some ⟨cg i, 0, none⟩) (B.cl.getD i []).length (cc i)) := by
 have hr := h.rw
 have hr' := h.rw
 rcases hr.2 with ⟨_, h0⟩ | ⟨g, cap, cur, rfl, _⟩
 · omega
 · refine ⟨g, cap, rfl, ?_⟩
   have := hr'.cellAt i (by omega)
   rw [List.getElem?_map, List.getElem?_range hi] at this
   exact this
end
theorem set_same {A : List (List Int)} {i : Nat} {c : List Int} (h : A[i]? = some c) : A.set i c = A := by
 obtain ⟨hi, e⟩ := List.getElem?_eq_some_iff.1 h
 subst e
 exact List.set_getElem_self hi
theorem wrap_in (n : Int) (h1 : -1000000000 ≤ n) (h2 : n ≤ 1000000000) : wrap64 n = n := by unfold wrap64; omega
set_option maxHeartbeats 2000000 in
theorem turn_any (w : World) (X : Nat → Prop) (R S W nS nW : Nat) (vc vs : Value) (wk : Int) (cg cc : Nat → Nat) (wv : Int → Value) (B : Bd) (h : Mb w X R S W nS nW vc vs wk cg cc wv B) (i : Nat) (nt a b : Int) (r : List Int) (hc : B.cl[i]? = some (a :: b :: r)) (hw : Wat nt (a :: b :: r)) (hn : (a :: b :: r).Nodup) (hsm : ∀ x ∈ a :: b :: r, Small x) (hln : (a :: b :: r).length ≤ 200) (hwt : ∀ x, (B.wt x).length ≤ 1000000) (hnW : nW ≤ 1000000000000000000) :
   Calls Tryz.prog 221 #[.pointer (some ⟨R, 0, none⟩), .int .i64 i, .int .i64 nt] w fun e w' => e = .returned (.bool (B.turnC nt (a :: b :: r)).2.isSome) ∧ ∃ X' wk' nW' wv', nW' ≤ nW + 1 ∧ wv' nt = wv nt ∧ Mb w' X' R S W nS nW' vc vs wk' cg cc wv' (B.turn i nt) ∧ Fr X w w' X' := by
 have hi : i < B.cl.length := (List.getElem?_eq_some_iff.1 hc).1
 have hgd : B.cl.getD i [] = a :: b :: r := getD_some hc
 obtain ⟨n2, hlr⟩ : ∃ n2 : Nat, (a :: b :: r).length = n2 := ⟨_, rfl⟩
 have hn2 : n2 = r.length + 2 := by rw [← hlr]; simp
 have HN2 := hide hn2
 have l2 : 2 ≤ n2 := by omega
 have l0 : 0 < n2 := by omega
 have l1 : 1 < n2 := by omega
 have l2i : (2 : Int) ≤ (n2 : Int) := by omega
 have l0i : (0 : Int) < (n2 : Int) := by omega
 have l1i : (1 : Int) < (n2 : Int) := by omega
 have hlr2 : n2 ≤ 200 := by omega
 clear hn2
 have hal : Below w.heap.size w (w.alloc (.cells #[.pointer (some ⟨R, 0, none⟩)] 207)) := bal (Below.refl _ _) _
 have h0 := h.later hal
 have HFA : Hid (Fr X w (w.alloc (.cells #[.pointer (some ⟨R, 0, none⟩)] 207)) X) := Fr.quiet hal
 have q0 : (w.alloc (.cells #[.pointer (some ⟨R, 0, none⟩)] 207)).cell? ⟨w.heap.size, 0, none⟩ = some (.pointer (some ⟨R, 0, none⟩)) := by simp [go_sem]
 have HXQ : Hid (¬ X w.heap.size) := fun e => by have := h.xb _ e; omega
 have c0 := h0.c0
 obtain ⟨gr, gcap, rfl, r0⟩ := h0.rowAt hi
 rw [hgd, hlr] at r0
 have x0 := h0.ints hi (j := 0) (by rw [hgd]; simp)
 have x1 := h0.ints hi (j := 1) (by rw [hgd]; simp)
 simp only [hgd, List.getElem_cons_zero, List.getElem_cons_succ] at x0 x1
 have fz0 := h0.fzc hi 0
 have fz1 := h0.fzc hi 1
 obtain ⟨o, ho, hont, hwo, hmem, hnd, hwat⟩ := turnC_fst hw hn
 have HP0 := hide (h0.put1 hi 0 b)
 have hgd1 : (B.cl.set i ((a :: b :: r).set 0 b)).getD i [] = b :: b :: r := by rw [getD_set hi]; simp
 rw [hgd] at HP0
 have HP1 := hide (HP0.out.put1 (i := i) (by simpa using hi) 1 nt)
 simp only [hgd1, List.set_set] at HP1
 have H0 := hide h0
 have hsz : w.heap.size < (w.alloc (.cells #[.pointer (some ⟨R, 0, none⟩)] 207)).heap.size := by simp
 have hki : (i : Int) < (B.cl.length : Int) := by omega
 have hcgx := h0.xi i hi
 have hcQ : w.heap.size ≠ cg i := fun e => HXQ.out (e ▸ hcgx)
 have HF2 : Hid (Fr X w (((w.alloc (.cells #[.pointer (some ⟨R, 0, none⟩)] 207)).setCell ⟨cg i, 0, none⟩ (.int .i64 b)).setCell ⟨cg i, 1, none⟩ (.int .i64 nt)) X) := (HFA.out.trans (Fr.set (q := ⟨cg i, 0, none⟩) hcgx _)).trans (Fr.set (q := ⟨cg i, 1, none⟩) hcgx _)
 have q2 : (((w.alloc (.cells #[.pointer (some ⟨R, 0, none⟩)] 207)).setCell ⟨cg i, 0, none⟩ (.int .i64 b)).setCell ⟨cg i, 1, none⟩ (.int .i64 nt)).cell? ⟨w.heap.size, 0, none⟩ = some (.pointer (some ⟨R, 0, none⟩)) := cell_set_far (cell_set_far q0 hcQ) hcQ
 have HO := hide ho
 have HW := hide hw
 have HT := hide (And.intro hont (And.intro hwo (And.intro hmem (And.intro hnd hwat))))
 have HSM := hide hsm
 have HN := hide hn
 have HC := hide hc
 have HGD := hide hgd
 clear h hal h0 hsz hcgx ho hw hont hwo hmem hnd hwat hsm hn hc hgd hgd1
 go_enter Tryz.func221, Tryz.ntmps221
 go_upto_if 21 with fail
 go_cut [] from 10 to 80 (fun wx => Hid (Mb wx X R S W nS nW (.slice (some ⟨gr, 0, none⟩) B.cl.length gcap) vs wk cg cc wv { B with cl := B.cl.set i (o :: nt :: r) }) ∧ Hid (Fr X w wx X) ∧ Hid (wx.cell? ⟨w.heap.size, 0, none⟩ = some (.pointer (some ⟨R, 0, none⟩))))
 case first =>
   by_cases hnt : a = nt
   · have ho' : o = b := by have := HO.out; simpa [hnt] using this
     subst ho' hnt
     clear HO
     go_wp2_with fail
     go_meet
     exact ⟨HP1, HF2, q2⟩
   · have ho' : o = a := by have := HO.out; simpa [hnt] using this
     have hb : b = nt := by rcases HW.out with e | e; exact absurd e.symm hnt; exact e.symm
     subst ho' hb
     clear HO
     have hntf : (o == b) = false := by simpa using hnt
     go_wp2_with fail
     go_meet
     refine ⟨?_, HFA, q0⟩
     rw [set_same HC.out]
     exact H0
 case rest =>
   obtain ⟨H1, HF1, HQ1⟩ := hcut
   clear HP0 HP1 H0 HFA HF2 q0 q2 c0 r0 x0 x1 fz0 fz1 hcQ HO HW
   have hi1 : i < (B.cl.set i (o :: nt :: r)).length := by simpa using hi
   have HG1 : Hid ((B.cl.set i (o :: nt :: r)).getD i [] = o :: nt :: r) := by unfold Hid; rw [getD_set hi]; simp
   have hsmo : Small o := HSM.out o ((HT.out.2.2.1 o).1 (by simp))
   have hsmt : Small nt := HSM.out nt ((HT.out.2.2.1 nt).1 (by simp))
   have HSR : Hid (∀ x ∈ r, Small x) := fun x hx => HSM.out x (by simp [hx])
   have HTC : Hid (B.turnC nt (a :: b :: r) = if B.so o then (o :: nt :: r, none) else match r.findIdx? (fun x => !B.so (-x)) with | none => (o :: nt :: r, none) | some j => (o :: r.getD j 0 :: r.set j nt, some (r.getD j 0))) := by
     obtain ⟨o', h1, h2, h3, h4, h5, h6⟩ := turnC_fst (nt := nt) (a := a) (b := b) (r := r) ((HT.out.2.2.2.2 nt).2 (.inr rfl)) HN.out
     have : o' = o := by
       have := (h6 o).1 HT.out.2.1
       rcases this with e | e
       · exact e.symm
       · exact absurd e HT.out.1
     subst this
     unfold Hid Bd.turnC
     simp only [← h1]
     rfl
   have HTN : Hid (B.turn i nt = match B.turnC nt (a :: b :: r) with | (c', some x) => { B with cl := B.cl.set i c', wt := upd B.wt x (B.wt x ++ [(i, c'.getD 0 0)]) } | (c', none) => { B with cl := B.cl.set i c' }) := by
     unfold Hid Bd.turn; rw [HGD.out]
   have HNX : Hid (∀ y ∈ r, y ≠ nt) := fun y hy e => by
     have := HT.out.2.2.2.1
     simp only [List.nodup_cons, List.mem_cons, not_or] at this
     exact this.2.1 (e ▸ hy)
   clear HT HSM HN HC
   have HSO := hide (fun (u : World) (hu : u.heap[R]? = wc.heap[R]? ∧ u.heap[S]? = wc.heap[S]?) => isSo_any R S nS B.st o hsmo u (by rw [World.cell?_of_block (w := wc) hu.1]; exact H1.out.c5) (H1.out.so.same hu.2))
   have x0 := H1.out.ints hi1 (j := 0) (by rw [HG1.out]; simp)
   simp only [HG1.out, List.getElem_cons_zero] at x0
   have q1 := HQ1.out
   generalize hB1 : ({ B with cl := B.cl.set i (o :: nt :: r) } : Bd) = B1 at *
   have HB1 := hide hB1
   clear hB1
   clear hln
   go_upto_region 4 with fail
   cases hso : decide (o ∈ B.st)
   · rw [hso] at HSO
     have hmf : ∀ (fn : Fn) (first cap : Array Value) (w : World), (Instr.makeFunc fn first cap).run Tryz.prog w = .ok (.func fn first cap) w := fun _ _ _ _ => rfl
     have HBG : Hid (B1.cl.getD i [] = o :: nt :: r ∧ i < B1.cl.length ∧ B1.st = B.st ∧ B1.wt = B.wt) := by rw [← HB1.out]; exact ⟨HG1.out, hi1, rfl, rfl⟩
     have HIX : Hid (∀ (p : Option Addr) (cap : Nat), (0 < r.length → p = some ⟨cg i, 2, none⟩) → Calls Tryz.prog 105 #[.slice p (n2 - 2) cap, .func (.func 245) #[] #[.pointer (some ⟨w.heap.size, 0, none⟩)]] wc.drew fun e w' => e = .returned (.int .i64 (findE (fun x => !decide (-x ∈ B.st)) r)) ∧ ∃ wk', Mb w' X R S W nS nW (.slice (some ⟨gr, 0, none⟩) B.cl.length gcap) vs wk' cg cc wv B1 ∧ Fr X w w' X ∧ w'.cell? ⟨w.heap.size, 0, none⟩ = some (.pointer (some ⟨R, 0, none⟩))) := fun p cap hp => by
       have hx := indexJ_any 245 (.pointer (some ⟨w.heap.size, 0, none⟩)) (fun x => !decide (-x ∈ B.st)) r p cap wc.drew (by unfold maxLen; have := HN2.out; omega)
         (fun wr => ∃ wk', Mb wr X R S W nS nW (.slice (some ⟨gr, 0, none⟩) B.cl.length gcap) vs wk' cg cc wv B1 ∧ Fr X w wr X ∧ wr.cell? ⟨w.heap.size, 0, none⟩ = some (.pointer (some ⟨R, 0, none⟩)))
         ⟨wk, H1.out.later (Below.refl _ wc).drew, HF1.out.trans (Fr.quiet (Below.refl _ wc).drew), HQ1.out⟩
         (fun wr ⟨wk', hM, _, _⟩ => fun h0 => ⟨cg i, 2, hp h0, fun j hj => by
           have := hM.ints HBG.out.2.1 (j := j + 2) (by rw [HBG.out.1]; simp; omega)
           simp only [HBG.out.1, List.getElem_cons_succ] at this
           rw [show 2 + j = j + 2 from Nat.add_comm _ _]
           exact this⟩) enter94
         (fun wr ⟨wk', hM, hF, hq⟩ j hj => (mayBe_any w.heap.size r[j] (HSR.out _ (List.getElem_mem hj)) wr X R S W nS nW _ vs wk' cg cc wv B1 hM hq).mono fun e w' ⟨he, wk2, hM2, hF2⟩ => ⟨by rw [he, HBG.out.2.2.1], wk2, hM2, hF.trans hF2, hF2.cell hq HXQ.out⟩)
       rw [show r.length = n2 - 2 by have := HN2.out; omega] at hx
       exact hx
     have hcap : n2 ≤ cc i := by
       have h9 := H1.out.cl i HBG.out.2.1
       rw [HBG.out.1] at h9
       rcases h9.2 with ⟨e, _⟩ | ⟨g, cap, cur, e, _, _, h10, _⟩
       · cases e
       · injection e with _ _ e3
         have := HN2.out
         simp only [List.length_cons] at h10
         omega
     have hcapi : (n2 : Int) ≤ (cc i : Int) := by omega
     have hcap2 : 2 ≤ cc i := by omega
     have hcap2i : (2 : Int) ≤ (cc i : Int) := by omega
     go_region_held3 (fun w' => w' = wc.drew) (first | rfl | go_keep) ((go_at_call 210; refine (HSO.out wc.drew ⟨rfl, rfl⟩).mono ?_; rintro e w' ⟨rfl, rfl⟩))
     by_cases hc2 : cc i = 2
     · have hr0 : r = [] := by have := HN2.out; exact List.eq_nil_of_length_eq_zero (by omega)
       go_wp2_with fail
       refine (HIX.out _ _ (fun h0 => by rw [hr0] at h0; simp at h0)).mono ?_
       rintro e w2 ⟨rfl, wk2, hM2, hF2, hq2⟩
       have HM2 := hide hM2
       have HFF2 := hide hF2
       clear HIX hM2 hF2
       have hfi : r.findIdx? (fun x => !B.so (-x)) = none := by rw [hr0]; rfl
       have hfe : findE (fun x => !decide (-x ∈ B.st)) r = -1 := by rw [hr0]; rfl
       rw [hfe]
       have HR : Hid (B.turnC nt (a :: b :: r) = (o :: nt :: r, none)) := by
         unfold Hid
         rw [HTC.out, if_neg (by rw [show B.so o = false from hso]; simp), hfi]
       rw [HR.out] at HTN
       clear hfe hfi HTC hr0
       go_wp2_with fail
       go_ret
       refine ⟨by rw [HR.out]; rfl, X, wk2, nW, wv, Nat.le_succ _, rfl, ?_, HFF2.out⟩
       rw [HTN.out, HB1.out]
       exact HM2.out
     · go_wp2_with fail
       refine (HIX.out _ _ (fun _ => rfl)).mono ?_
       rintro e w2 ⟨rfl, wk2, hM2, hF2, hq2⟩
       have HM2 := hide hM2
       have HFF2 := hide hF2
       clear HIX hM2 hF2
       cases hfi : r.findIdx? (fun x => !B.so (-x)) with
       | none =>
         have hfe : findE (fun x => !decide (-x ∈ B.st)) r = -1 := by
           have : r.findIdx? (fun x => !decide (-x ∈ B.st)) = none := hfi
           unfold findE; rw [this]
         rw [hfe]
         have HR : Hid (B.turnC nt (a :: b :: r) = (o :: nt :: r, none)) := by
           unfold Hid
           rw [HTC.out, if_neg (by rw [show B.so o = false from hso]; simp), hfi]
         rw [HR.out] at HTN
         clear hfe hfi HTC
         go_wp2_with fail
         go_ret
         refine ⟨by rw [HR.out]; rfl, X, wk2, nW, wv, Nat.le_succ _, rfl, ?_, HFF2.out⟩
         rw [HTN.out, HB1.out]
         exact HM2.out
       | some j =>
         obtain ⟨hj, hp, _⟩ := List.findIdx?_eq_some_iff_getElem.1 hfi
         have hfe : findE (fun x => !decide (-x ∈ B.st)) r = (j : Int) := by
           have : r.findIdx? (fun x => !decide (-x ∈ B.st)) = some j := hfi
           unfold findE; rw [this]
         rw [hfe]
         have hgx : r.getD j 0 = r[j] := by simp [List.getD, List.getElem?_eq_getElem hj]
         have HR : Hid (B.turnC nt (a :: b :: r) = (o :: r[j] :: r.set j nt, some r[j])) := by
           unfold Hid
           rw [HTC.out, if_neg (by rw [show B.so o = false from hso]; simp), hfi]
           simp only [hgx]
         rw [HR.out] at HTN
         have hsx : Small r[j] := HSR.out _ (List.getElem_mem hj)
         have HXN : Hid (nt ≠ r[j]) := fun e => HNX.out _ (List.getElem_mem hj) e.symm
         obtain ⟨m, hm⟩ : ∃ m : Nat, 2 + j = m := ⟨_, rfl⟩
         have hmn : m < n2 := by have := HN2.out; omega
         have hmi : (m : Int) < (n2 : Int) := by omega
         have hj0 : ¬ (j : Int) < 0 := by omega
         have y0 := HM2.out.ints HBG.out.2.1 (j := 0) (by rw [HBG.out.1]; simp)
         have y1 := HM2.out.ints HBG.out.2.1 (j := 1) (by rw [HBG.out.1]; simp)
         have y2' := HM2.out.ints HBG.out.2.1 (j := j + 2) (by rw [HBG.out.1]; simp; omega)
         simp only [HBG.out.1, List.getElem_cons_zero, List.getElem_cons_succ] at y0 y1 y2'
         have y2 : w2.cell? ⟨cg i, m, none⟩ = some (.int .i64 r[j]) := by rw [show m = j + 2 by omega]; exact y2'
         clear y2'
         have z1 := HM2.out.fzc HBG.out.2.1 1
         have z2 := HM2.out.fzc HBG.out.2.1 m
         have hp1 := HM2.out.put1 HBG.out.2.1 1 r[j]
         rw [HBG.out.1] at hp1
         have hg3 : (B1.cl.set i ((o :: nt :: r).set 1 r[j])).getD i [] = o :: r[j] :: r := by rw [getD_set HBG.out.2.1]; simp
         have hp2 := hp1.put1 (i := i) (by simpa using HBG.out.2.1) m nt
         simp only [hg3, List.set_set] at hp2
         rw [show (o :: r[j] :: r).set m nt = o :: r[j] :: r.set j nt by rw [← hm, Nat.add_comm]; rfl] at hp2
         have hB3 : ({ B1 with cl := B1.cl.set i (o :: r[j] :: r.set j nt) } : Bd) = { B with cl := B.cl.set i (o :: r[j] :: r.set j nt) } := by rw [← HB1.out]; simp
         rw [hB3] at hp2
         have HP2 := hide hp2
         have hXc := HM2.out.xi i HBG.out.2.1
         have hQ3 : w.heap.size ≠ cg i := fun e => HXQ.out (e ▸ hXc)
         have HF3 : Hid (Fr X w ((w2.setCell ⟨cg i, 1, none⟩ (.int .i64 r[j])).setCell ⟨cg i, m, none⟩ (.int .i64 nt)) X) := (HFF2.out.trans (Fr.set (q := ⟨cg i, 1, none⟩) hXc _)).trans (Fr.set (q := ⟨cg i, m, none⟩) hXc _)
         have q3 : ((w2.setCell ⟨cg i, 1, none⟩ (.int .i64 r[j])).setCell ⟨cg i, m, none⟩ (.int .i64 nt)).cell? ⟨w.heap.size, 0, none⟩ = some (.pointer (some ⟨R, 0, none⟩)) := cell_set_far (cell_set_far hq2 hQ3) hQ3
         have hi3 : i < (B.cl.set i (o :: r[j] :: r.set j nt)).length := by simpa using hi
         have hgg3 : (B.cl.set i (o :: r[j] :: r.set j nt)).getD i [] = o :: r[j] :: r.set j nt := by rw [getD_set hi]; simp
         have u0 := hp2.ints hi3 (j := 0) (by rw [hgg3]; simp)
         have u1 := hp2.ints hi3 (j := 1) (by rw [hgg3]; simp)
         simp only [hgg3, List.getElem_cons_zero, List.getElem_cons_succ] at u0 u1
         have HU := hide (And.intro u0 (And.intro u1 q3))
         have HG3 := hide hgg3
         clear u0 u1 q3
         have HWA := hide (fun (u : World) (hu : Below ((w2.setCell ⟨cg i, 1, none⟩ (.int .i64 r[j])).setCell ⟨cg i, m, none⟩ (.int .i64 nt)).heap.size ((w2.setCell ⟨cg i, 1, none⟩ (.int .i64 r[j])).setCell ⟨cg i, m, none⟩ (.int .i64 nt)) u) => watch_any u X R S W nS nW _ vs wk2 cg cc wv _ (HP2.out.later hu) r[j] i o hsx (hwt _) hnW)
         have hmf2 := hmf
         have hm1 : ¬ m = 1 := by omega
         have hm1' : ¬ 1 = m := by omega
         have HMJ := hide hm
         have hwr : wrap64 (2 + (j : Int)) = (m : Int) := by
           rw [wrap_in _ (by omega) (by omega)]; omega
         clear hm
         clear hp1 hp2 hg3 hB3 hgg3 hfe hfi HTC hp hgx HM2 HFF2 HBG hXc hsx hmf2 HSO HSR x0 q1 hq2 hQ3 H1 HF1 HQ1 HG1
         generalize r[j] = x at *
         go_upto_region 10 with fail
         generalize hjj : (j : Int) = jj at *
         go_upto_region 11 with fail
         generalize (w2.setCell ⟨cg i, 1, none⟩ (.int .i64 x)).setCell ⟨cg i, m, none⟩ (.int .i64 nt) = w3 at *
         obtain ⟨u0, u1, q3⟩ := HU.out
         clear y0 y1 y2 z1 z2 hwr
         go_region_held3 (fun w' => w'.cell? ⟨w.heap.size, 0, none⟩ = some (.pointer (some ⟨R, 0, none⟩)) ∧ w'.cell? ⟨cg i, 0, none⟩ = some (.int .i64 o) ∧ w'.cell? ⟨cg i, 1, none⟩ = some (.int .i64 x)) (first | exact ⟨q3, u0, u1⟩ | exact ⟨v2, v0, v1⟩ | go_keep)
           ((go_at_call 219; refine (HWA.out w3.drew (Below.refl _ w3).drew).mono ?_; rintro e w' ⟨rfl, X', v', hM4, hF4⟩
             have v0 := hM4.ints hi3 (j := 0) (by rw [HG3.out]; simp)
             have v1 := hM4.ints hi3 (j := 1) (by rw [HG3.out]; simp)
             simp only [HG3.out, List.getElem_cons_zero, List.getElem_cons_succ] at v0 v1
             have v2 := hF4.cell (q := ⟨w.heap.size, 0, none⟩) q3 HXQ.out
             have HM4 := hide hM4
             have HF4 := hide hF4
             clear hM4 hF4))
         go_wp2_with fail
         go_ret
         refine ⟨by rw [HR.out]; rfl, X', wk2, nW + 1, upd wv x v', Nat.le_refl _, upd_ne _ _ HXN.out, ?_, (HF3.out.trans (Fr.quiet (Below.refl _ w3).drew)).trans HF4.out⟩
         rw [HTN.out]
         exact HM4.out
   · rw [hso] at HSO
     go_region_held3 (fun w' => w' = wc.drew) (first | rfl | go_keep) ((go_at_call 210; refine (HSO.out wc.drew ⟨rfl, rfl⟩).mono ?_; rintro e w' ⟨rfl, rfl⟩))
     go_wp2_with fail
     go_ret
     have hs : B.so o = true := hso
     refine ⟨?_, X, wk, nW, Nat.le_succ _, wv, rfl, ?_, HF1.out.trans (Fr.quiet (Below.refl _ wc).drew)⟩
     · rw [HTC.out, if_pos hs]; rfl
     · rw [HTN.out, HTC.out, if_pos hs]
       simp only
       rw [HB1.out]
       exact H1.out.later (Below.refl _ wc).drew
end Go.Proofs.YtmambfdimeeijaaGreatDoor.Pf

namespace Go.Proofs.YtmambfdimeeijaaGreatDoor.Pf
open Go.RowKit Go.Maps Go.WideMaps
set_option maxRecDepth 100000
def untilE (st : List Int) (x : Int) : Int := if -x ∈ st then (st.idxOf (-x) : Int) else st.length
set_option maxHeartbeats 1000000 in
theorem until_any (Q : Nat) (x : Int) (hx : Small x) (w : World) (X : Nat → Prop) (R S W nS nW : Nat) (vc vs : Value) (wk : Int) (cg cc : Nat → Nat) (wv : Int → Value) (B : Bd) (h : Mb w X R S W nS nW vc vs wk cg cc wv B) (hQ : w.cell? ⟨Q, 0, none⟩ = some (.pointer (some ⟨R, 0, none⟩))) :
   Calls Tryz.prog 244 #[.int .i64 x, .pointer (some ⟨Q, 0, none⟩)] w fun e w' => e = .returned (.int .i64 (untilE B.st x)) ∧ w' = w := by
 obtain ⟨c, hl, hc⟩ := look103 h.so hx.neg
 have c1 := h.c1
 have c5 := h.c5
 obtain ⟨ps, cs, rfl⟩ : ∃ p c, vs = .slice p B.sp.length c := by
   rcases h.st.2 with ⟨rfl, e⟩ | ⟨g, cap, cur, rfl, _⟩
   · rw [e]; exact ⟨_, _, rfl⟩
   · exact ⟨_, _, rfl⟩
 have hx1 := hx.1
 have hx2 := hx.2
 have hwn : wrap64 (-x) = -x := wrap_in _ (by omega) (by omega)
 have hln := st_len B
 by_cases hin : -x ∈ B.st
 · have hd : decide (-x ∈ B.st) = true := by simpa using hin
   rw [hd] at hl
   have HE : Hid (untilE B.st x = c) := by
     unfold Hid untilE
     rw [if_pos hin]
     have hlt : B.st.idxOf (-x) < B.st.length := List.idxOf_lt_length_of_mem hin
     have := hc (B.st.idxOf (-x)) (by rw [List.getElem?_eq_getElem hlt, List.getElem_idxOf])
     exact this.symm
   clear h hc hd hin hln
   go_enter Tryz.func244, Tryz.ntmps244
   go_wp2_with fail
   go_ret
   exact ⟨ret_int HE.out.symm, rfl⟩
 · have hd : decide (-x ∈ B.st) = false := by simpa using hin
   rw [hd] at hl
   have HE : Hid (untilE B.st x = B.sp.length) := by
     unfold Hid untilE
     rw [if_neg hin, hln]
   clear h hc hd hin hln
   go_enter Tryz.func244, Tryz.ntmps244
   go_wp2_with fail
   go_ret
   exact ⟨ret_int HE.out.symm, rfl⟩
end Go.Proofs.YtmambfdimeeijaaGreatDoor.Pf

namespace Go.Proofs.YtmambfdimeeijaaGreatDoor.Pf
open Go.RowKit Go.Maps Go.WideMaps
set_option maxRecDepth 100000
theorem enter93 (args : Array Value) (w : World) : (callFunc 244 args).run Tryz.prog w = .ok (.enter 244 args) w := by kernel_rfl
def pullI (u : Int → Int) (p : Nat) (l : List Int) : Nat → List Int
 | 0 => l
 | i + 1 => if p < i ∧ i < l.length ∧ u ((pullI u p l i).getD p 0) < u ((pullI u p l i).getD i 0) then ((pullI u p l i).set i ((pullI u p l i).getD p 0)).set p ((pullI u p l i).getD i 0) else pullI u p l i
theorem pull_pre (u : Int → Int) (p : Nat) (l : List Int) : ∀ i, i ≤ p + 1 → pullI u p l i = l := by
 intro i
 induction i with
 | zero => intro _; rfl
 | succ i ih => intro h; rw [pullI, if_neg (by omega)]; exact ih (by omega)
theorem pull_past (u : Int → Int) (p : Nat) (l : List Int) : ∀ d, pullI u p l (l.length + d) = pullI u p l l.length := by
 intro d
 induction d with
 | zero => rfl
 | succ d ih => rw [← Nat.add_assoc, pullI, if_neg (by omega)]; exact ih
structure Pulled (u : Int → Int) (p : Nat) (l l' : List Int) (i : Nat) : Prop where
 perm : l'.Perm l
 pre : ∀ j, j < p → l'.getD j 0 = l.getD j 0
 max : ∀ j, p ≤ j → j < i → j < l.length → u (l'.getD j 0) ≤ u (l'.getD p 0)
 ex : l' = pullI u p l i
theorem Pulled.zero (u : Int → Int) (p : Nat) (l : List Int) : Pulled u p l l (p + 1) := ⟨.refl _, fun _ _ => rfl, fun j h1 h2 _ => by rw [show j = p by omega]; exact Int.le_refl _, (pull_pre u p l _ (Nat.le_refl _)).symm⟩
theorem Pulled.stay {u : Int → Int} {p : Nat} {l l' : List Int} {i : Nat} (h : Pulled u p l l' i) (hle : u (l'.getD i 0) ≤ u (l'.getD p 0)) : Pulled u p l l' (i + 1) :=
 ⟨h.perm, h.pre, fun j h1 h2 h3 => by
   by_cases e : j = i
   · rw [e]; exact hle
   · exact h.max j h1 (by omega) h3, by rw [pullI, ← h.ex, if_neg (by omega)]⟩
theorem getD_setI {l : List Int} {i j : Nat} {v : Int} (hi : i < l.length) : (l.set i v).getD j 0 = if j = i then v else l.getD j 0 := by
 simp only [List.getD, List.getElem?_set]
 by_cases e : i = j
 · subst e; simp [hi]
 · have e' : ¬ j = i := fun h => e h.symm
   simp [e, e']
theorem Pulled.swap {u : Int → Int} {p : Nat} {l l' : List Int} {i : Nat} (h : Pulled u p l l' i) (hp : p < i) (hi : i < l'.length) (hlt : u (l'.getD p 0) < u (l'.getD i 0)) : Pulled u p l ((l'.set i (l'.getD p 0)).set p (l'.getD i 0)) (i + 1) := by
 have hpl : p < l'.length := by omega
 have g1 : l'.getD p 0 = l'[p] := by rw [List.getD, List.getElem?_eq_getElem hpl]; rfl
 have g2 : l'.getD i 0 = l'[i] := by rw [List.getD, List.getElem?_eq_getElem hi]; rfl
 have hg : ∀ j, ((l'.set i (l'.getD p 0)).set p (l'.getD i 0)).getD j 0 = if j = p then l'.getD i 0 else if j = i then l'.getD p 0 else l'.getD j 0 := fun j => by
   rw [getD_setI (by simpa using hpl)]
   split
   · rfl
   · rw [getD_setI hi]
 refine ⟨?_, fun j hj => ?_, fun j h1 h2 h3 => ?_, by rw [pullI, ← h.ex, if_pos ⟨hp, by rw [← h.perm.length_eq]; exact hi, hlt⟩]⟩
 · refine List.Perm.trans ?_ h.perm
   rw [g1, g2]
   exact List.set_set_perm hi hpl
 · rw [hg, if_neg (by omega), if_neg (by omega)]
   exact h.pre j hj
 · rw [hg p, if_pos rfl, hg j]
   split
   · exact Int.le_refl _
   · split
     · omega
     · have := h.max j h1 (by omega) h3; omega
section
variable {w : World} {X : Nat → Prop} {R S W nS nW : Nat} {vc vs : Value} {wk : Int} {cg cc : Nat → Nat} {wv : Int → Value} {B : Bd}
theorem Mb.apart {w1 : World} (h : Mb w X R S W nS nW vc vs wk cg cc wv B) (hs : w.heap.size ≤ w1.heap.size) (hb : ∀ g, X g → w1.heap[g]? = w.heap[g]?) : Mb w1 X R S W nS nW vc vs wk cg cc wv B :=
 ⟨(hb R h.xr).trans h.bd, h.so.same (hb S h.xs), h.wm.same (hb W h.xw), row_same h.st fun g e => hb g (h.xt g e), row_same h.rw fun g e => hb g (h.xc g e), fun i hi => row_same (h.cl i hi) fun g e => hb g (by simp only [Value.ownBlock, Option.some.injEq] at e; exact e ▸ h.xi i hi), fun x => row_same (h.wl x) fun g e => hb g (h.xl x g e), h.cn, h.wn, h.sw, h.xr, h.xs, h.xw, h.xt, h.xc, h.xi, h.xl, fun g hg => Nat.lt_of_lt_of_le (h.xb g hg) hs⟩
end
theorem row_set {w : World} {G cap : Nat} {l : List Int} (h : w.ownsRow 0 3 1 (.slice (some ⟨G, 0, none⟩) l.length cap) l.length (l.map (Value.int .i64))) (j : Nat) (x : Int) : (w.setCell ⟨G, j, none⟩ (.int .i64 x)).ownsRow 0 3 1 (.slice (some ⟨G, 0, none⟩) (l.set j x).length cap) (l.set j x).length ((l.set j x).map (Value.int .i64)) := by
 rcases h with ⟨hl, hor⟩
 refine ⟨by simp, ?_⟩
 rcases hor with ⟨e, _⟩ | ⟨g, cap', cur, e, hb, hg, hn, hm, hs, ht⟩
 · cases e
 · injection e with e1 e2 e3
   injection e1 with e1
   injection e1 with e1
   subst e1 e3
   refine .inr ⟨G, cap, cur.setIfInBounds j (.int .i64 x), by simp, Nat.zero_le _, heap_setCell_same _ _ _ _ _ _ hg, by simpa using hn, hm, by simpa using hs, ?_⟩
   rw [List.length_set, Array.toList_setIfInBounds, List.take_set, ht, List.map_set]
theorem row_cell {w : World} {G cap : Nat} {l : List Int} (h : w.ownsRow 0 3 1 (.slice (some ⟨G, 0, none⟩) l.length cap) l.length (l.map (Value.int .i64))) {j : Nat} (hj : j < l.length) : w.cell? ⟨G, j, none⟩ = some (.int .i64 (l.getD j 0)) ∧ w.frozen? ⟨G, j, none⟩ = false := by
 refine ⟨?_, ?_⟩
 · have := h.cellAt j (by omega)
   rw [List.getElem?_map, List.getElem?_eq_getElem hj] at this
   rw [List.getD, List.getElem?_eq_getElem hj]
   exact this
 · rcases h.2 with ⟨e, _⟩ | ⟨g, cap', cur, e, _, hg, _⟩
   · cases e
   · injection e with e
     injection e with e
     injection e with e
     subst e
     exact Lib.frozen_of_heap hg j
def loadP : Op := .load 3 (.tmp 36)
theorem loadP_fold : Op.load 3 (.tmp 36) = loadP := rfl
theorem loadP_is : loadP = Op.load 3 (.tmp 36) := rfl
def loadQ : Op := .load 3 (.tmp 40)
theorem loadQ_fold : Op.load 3 (.tmp 40) = loadQ := rfl
theorem loadQ_is : loadQ = Op.load 3 (.tmp 40) := rfl
attribute [local go_sem] loadP_is
attribute [local go_sem] loadQ_is
set_option maxHeartbeats 2000000 in
theorem pull_any (w : World) (X : Nat → Prop) (R S W nS nW : Nat) (vc vs : Value) (wk : Int) (cg cc : Nat → Nat) (wv : Int → Value) (B : Bd) (h : Mb w X R S W nS nW vc vs wk cg cc wv B) (G cap : Nat) (l : List Int) (hl : l.length ≤ 200) (hsm : ∀ x ∈ l, Small x) (hrow : w.ownsRow 0 3 1 (.slice (some ⟨G, 0, none⟩) l.length cap) l.length (l.map (Value.int .i64))) (hG : ¬ X G) (p : Nat) (hp : p ≤ 1) :
   Calls Tryz.prog 218 #[.pointer (some ⟨R, 0, none⟩), .slice (some ⟨G, 0, none⟩) l.length cap, .int .i64 p] w fun e w' => e = .returned (.tuple #[]) ∧ ∃ l', Pulled (untilE B.st) p l l' l.length ∧ w'.ownsRow 0 3 1 (.slice (some ⟨G, 0, none⟩) l.length cap) l.length (l'.map (Value.int .i64)) ∧ Mb w' X R S W nS nW vc vs wk cg cc wv B ∧ Fr (fun g => g = G) w w' (fun g => g = G) := by
 have hmf : ∀ (fn : Fn) (first cap : Array Value) (w : World), (Instr.makeFunc fn first cap).run Tryz.prog w = .ok (.func fn first cap) w := fun _ _ _ _ => rfl
 have hent := enter93
 have hal : Below w.heap.size w (w.alloc (.cells #[.pointer (some ⟨R, 0, none⟩)] 207)) := bal (Below.refl _ _) _
 have q0 : (w.alloc (.cells #[.pointer (some ⟨R, 0, none⟩)] 207)).cell? ⟨w.heap.size, 0, none⟩ = some (.pointer (some ⟨R, 0, none⟩)) := by simp [go_sem]
 have hGlt : G < w.heap.size := (hrow.lt G rfl).2
 have HQG : Hid (w.heap.size ≠ G) := fun e => by omega
 have HXG := hide hG
 have HSM := hide hsm
 have HST : Hid (w.heap.size < (w.alloc (.cells #[.pointer (some ⟨R, 0, none⟩)] 207)).heap.size ∧ (w.alloc (.cells #[.pointer (some ⟨R, 0, none⟩)] 207)).cell? ⟨w.heap.size, 0, none⟩ = some (.pointer (some ⟨R, 0, none⟩)) ∧ (w.alloc (.cells #[.pointer (some ⟨R, 0, none⟩)] 207)).ownsRow 0 3 1 (.slice (some ⟨G, 0, none⟩) l.length cap) l.length (l.map (Value.int .i64)) ∧ Mb (w.alloc (.cells #[.pointer (some ⟨R, 0, none⟩)] 207)) X R S W nS nW vc vs wk cg cc wv B ∧ Fr (fun g => g = G) w (w.alloc (.cells #[.pointer (some ⟨R, 0, none⟩)] 207)) (fun g => g = G)) :=
   ⟨by simp, q0, hrow.alloc _, h.later hal, Fr.quiet hal⟩
 have hpi : (p : Int) ≤ 1 := by omega
 clear h hal q0 hrow hG hsm
 go_enter Tryz.func218, Tryz.ntmps218
 go_wp2_with fail
 go_loopw [7] (fun t wr => ∃ (i : Nat) (l' : List Int), p + 1 ≤ i ∧ i ≤ l.length + p + 1 ∧ t = .int .i64 i ∧ Hid (Pulled (untilE B.st) p l l' i ∧ wr.cell? ⟨w.heap.size, 0, none⟩ = some (.pointer (some ⟨R, 0, none⟩)) ∧ wr.ownsRow 0 3 1 (.slice (some ⟨G, 0, none⟩) l.length cap) l.length (l'.map (Value.int .i64)) ∧ Mb wr X R S W nS nW vc vs wk cg cc wv B ∧ Fr (fun g => g = G) w wr (fun g => g = G))) (fun t _ => l.length - (intOf t).toNat)
 case atStart => exact ⟨p + 1, l, Nat.le_refl _, by omega, by go_num, Pulled.zero _ _ _, HST.out.2.1, HST.out.2.2.1, HST.out.2.2.2.1, HST.out.2.2.2.2⟩
 case round =>
   obtain ⟨i, l', hi1, hi2, rfl, HJ⟩ := hrel
   have HLN : Hid (l'.length = l.length) := HJ.out.1.perm.length_eq
   by_cases hlt : i < l.length
   · have hr : wr.ownsRow 0 3 1 (.slice (some ⟨G, 0, none⟩) l'.length cap) l'.length (l'.map (Value.int .i64)) := by rw [HLN.out]; exact HJ.out.2.2.1
     have hil' : i < l'.length := by rw [HLN.out]; exact hlt
     have hpl' : p < l'.length := by omega
     obtain ⟨x0, fx⟩ := row_cell hr hil'
     obtain ⟨y0, fy⟩ := row_cell hr hpl'
     have hil : (i : Int) < (l.length : Int) := by omega
     have hpl : (p : Int) < (l.length : Int) := by rw [HLN.out] at hpl'; omega
     have hpln : p < l.length := by rw [HLN.out] at hpl'; exact hpl'
     have hin : ∀ j, j < l'.length → l'.getD j 0 ∈ l := fun j hj => HJ.out.1.perm.mem_iff.1 (by rw [List.getD, List.getElem?_eq_getElem hj]; exact List.getElem_mem hj)
     have HUi := hide (until_any w.heap.size (l'.getD i 0) (HSM.out _ (hin i hil')) wr.drew X R S W nS nW vc vs wk cg cc wv B (HJ.out.2.2.2.1.later (Below.refl _ wr).drew) HJ.out.2.1)
     have HUp := hide (until_any w.heap.size (l'.getD p 0) (HSM.out _ (hin p hpl')) wr.drew X R S W nS nW vc vs wk cg cc wv B (HJ.out.2.2.2.1.later (Below.refl _ wr).drew) HJ.out.2.1)
     have HSW : Hid (untilE B.st (l'.getD p 0) < untilE B.st (l'.getD i 0) → Pulled (untilE B.st) p l ((l'.set i (l'.getD p 0)).set p (l'.getD i 0)) (i + 1)) := fun e => HJ.out.1.swap (by omega) hil' e
     have HSY : Hid (untilE B.st (l'.getD i 0) ≤ untilE B.st (l'.getD p 0) → Pulled (untilE B.st) p l l' (i + 1)) := fun e => HJ.out.1.stay e
     have HRS : Hid (∀ a b : Int, ((wr.drew.setCell ⟨G, i, none⟩ (.int .i64 b)).setCell ⟨G, p, none⟩ (.int .i64 a)).ownsRow 0 3 1 (.slice (some ⟨G, 0, none⟩) l.length cap) l.length (((l'.set i b).set p a).map (Value.int .i64))) := fun a b => by
       have := row_set (row_set (w := wr.drew) hr i b) p a
       rw [List.length_set, List.length_set, HLN.out] at this
       exact this
     have HFS : Hid (∀ a b : Int, Fr (fun g => g = G) w ((wr.drew.setCell ⟨G, i, none⟩ (.int .i64 b)).setCell ⟨G, p, none⟩ (.int .i64 a)) (fun g => g = G)) := fun a b => ((HJ.out.2.2.2.2.trans (Fr.quiet (Below.refl _ wr).drew)).trans (Fr.set (X := fun g => g = G) (q := ⟨G, i, none⟩) rfl _)).trans (Fr.set (X := fun g => g = G) (q := ⟨G, p, none⟩) rfl _)
     have hng : ∀ g, X g → g ≠ G := fun g hg e => HXG.out (e ▸ hg)
     have HMS : Hid (∀ a b : Int, Mb ((wr.drew.setCell ⟨G, i, none⟩ (.int .i64 b)).setCell ⟨G, p, none⟩ (.int .i64 a)) X R S W nS nW vc vs wk cg cc wv B) := fun a b => HJ.out.2.2.2.1.apart (by simp) (fun g hg => (Below.heap_setCell _ _ _ _ (hng g hg)).trans (Below.heap_setCell _ _ _ _ (hng g hg)))
     have HQS : Hid (∀ a b : Int, ((wr.drew.setCell ⟨G, i, none⟩ (.int .i64 b)).setCell ⟨G, p, none⟩ (.int .i64 a)).cell? ⟨w.heap.size, 0, none⟩ = some (.pointer (some ⟨R, 0, none⟩))) := fun a b => cell_set_far (cell_set_far HJ.out.2.1 HQG.out) HQG.out
     have hne : ¬ i = p := by omega
     have hne' : ¬ p = i := by omega
     clear hr hil' hpl' hin hng
     generalize l'.getD i 0 = a at *
     generalize l'.getD p 0 = b at *
     generalize untilE B.st a = ua at *
     generalize untilE B.st b = ub at *
     by_cases hu : ub < ua
     · have HP := hide (HSW.out hu)
       clear HSW HSY
       go_upto_region 5 with fail
       go_region_held3 (fun w' => w' = wr.drew) (first | rfl | go_keep) (first | (go_at_call 244; with_reducible refine HUi.out.mono ?_; rintro e w' ⟨rfl, rfl⟩) | (go_at_call 244; with_reducible refine HUp.out.mono ?_; rintro e w' ⟨rfl, rfl⟩))
       all_goals
         go_upto_region 6 with fail
         simp only [loadP_fold, loadQ_fold]
         go_region_held3 (fun _ => True) (trivial) (fail)
         all_goals
           go_wp2_with fail
           go_roundw
           case rel => exact ⟨i + 1, _, by omega, by omega, by go_num, HP.out, HQS.out a b, HRS.out a b, (HMS.out a b).later (Below.refl _ _).drew, (HFS.out a b).trans (Fr.quiet (Below.refl _ _).drew)⟩
           case measure => simp [intOf]; omega
     · have HP := hide (HSY.out (by omega))
       clear HSW HSY
       go_upto_region 5 with fail
       go_region_held3 (fun w' => w' = wr.drew) (first | rfl | go_keep) (first | (go_at_call 244; with_reducible refine HUi.out.mono ?_; rintro e w' ⟨rfl, rfl⟩) | (go_at_call 244; with_reducible refine HUp.out.mono ?_; rintro e w' ⟨rfl, rfl⟩))
       all_goals
         go_wp2_with fail
         go_roundw
         case rel => exact ⟨i + 1, l', by omega, by omega, by go_num, HP.out, HJ.out.2.1, HJ.out.2.2.1, HJ.out.2.2.2.1.later (Below.refl _ wr).drew, HJ.out.2.2.2.2.trans (Fr.quiet (Below.refl _ wr).drew)⟩
         case measure => simp [intOf]; omega
   · have hil : ¬ (i : Int) < (l.length : Int) := by omega
     go_wp2_with fail
     go_end0
     refine ⟨rfl, l', ⟨HJ.out.1.perm, HJ.out.1.pre, fun j h1 h2 h3 => HJ.out.1.max j h1 (by omega) h3, by
       have e := pull_past (untilE B.st) p l (i - l.length)
       rw [show l.length + (i - l.length) = i by omega] at e
       rw [← e]
       exact HJ.out.1.ex⟩, HJ.out.2.2.1, HJ.out.2.2.2.1, HJ.out.2.2.2.2⟩
end Go.Proofs.YtmambfdimeeijaaGreatDoor.Pf
