/- A board: a clause's watch is turned to another of its numbers, if there is one. -/
import Derived.Test.YtkinmangilbeeaaGreatDoorPd
import Derived.Deep.CutRange
namespace Go.Proofs.YtkinmangilbeeaaGreatDoor.Pf
open Go.RowKit Go.Maps Go.WideMaps
set_option maxRecDepth 100000

theorem enter94 (args : Array Value) (w : World) : (callFunc 77 args).run Tryz.prog w = .ok (.enter 77 args) w := by kernel_rfl
/-- The board behind a turn. -/
def Bd.turn (B : Bd) (i : Nat) (nt : Int) : Bd := match B.turnC nt (B.cl.getD i []) with
  | (c', some x) => { B with cl := B.cl.set i c', wt := upd B.wt x (B.wt x ++ [(i, c'.getD 0 0)]) }
  | (c', none) => { B with cl := B.cl.set i c' }
section
variable {w : World} {X : Nat → Prop} {R S W nS nW : Nat} {vc vs : Value} {wk : Int} {cg cc : Nat → Nat} {wv : Int → Value} {B : Bd}
theorem Mb.rowAt (h : Mb w X R S W nS nW vc vs wk cg cc wv B) {i : Nat} (hi : i < B.cl.length) : ∃ g cap, vc = .slice (some ⟨g, 0, none⟩) B.cl.length cap ∧ w.cell? ⟨g, i, none⟩ = some (.slice (some ⟨cg i, 0, none⟩) (B.cl.getD i []).length (cc i)) := by
  have hr := h.rw
  have hr' := h.rw
  rcases hr.2 with ⟨_, h0⟩ | ⟨g, cap, cur, rfl, _⟩
  · omega
  · refine ⟨g, cap, rfl, ?_⟩
    have := hr'.cellAt i (by omega)
    rw [List.getElem?_map, List.getElem?_range hi] at this
    exact this
end
theorem set_same {A : List (List Int)} {i : Nat} {c : List Int} (h : A[i]? = some c) : A.set i c = A := by
  obtain ⟨hi, e⟩ := List.getElem?_eq_some_iff.1 h
  subst e
  exact List.set_getElem_self hi

theorem wrap_in (n : Int) (h1 : -1000000000 ≤ n) (h2 : n ≤ 1000000000) : wrap64 n = n := by unfold wrap64; omega
set_option maxHeartbeats 2000000 in
theorem turn_any (w : World) (X : Nat → Prop) (R S W nS nW : Nat) (vc vs : Value) (wk : Int) (cg cc : Nat → Nat) (wv : Int → Value) (B : Bd) (h : Mb w X R S W nS nW vc vs wk cg cc wv B) (i : Nat) (nt a b : Int) (r : List Int) (hc : B.cl[i]? = some (a :: b :: r)) (hw : Wat nt (a :: b :: r)) (hn : (a :: b :: r).Nodup) (hsm : ∀ x ∈ a :: b :: r, Small x) (hln : (a :: b :: r).length ≤ 200) (hwt : ∀ x, (B.wt x).length ≤ 1000000) (hnW : nW ≤ 1000000000000000000) :
    Calls Tryz.prog 55 #[.pointer (some ⟨R, 0, none⟩), .int .i64 i, .int .i64 nt] w fun e w' => e = .returned (.bool (B.turnC nt (a :: b :: r)).2.isSome) ∧ ∃ X' wk' nW' wv', nW' ≤ nW + 1 ∧ wv' nt = wv nt ∧ Mb w' X' R S W nS nW' vc vs wk' cg cc wv' (B.turn i nt) ∧ Fr X w w' X' := by
  have hi : i < B.cl.length := (List.getElem?_eq_some_iff.1 hc).1
  have hgd : B.cl.getD i [] = a :: b :: r := getD_some hc
  obtain ⟨n2, hlr⟩ : ∃ n2 : Nat, (a :: b :: r).length = n2 := ⟨_, rfl⟩
  have hn2 : n2 = r.length + 2 := by rw [← hlr]; simp
  have HN2 := hide hn2
  have l2 : 2 ≤ n2 := by omega
  have l0 : 0 < n2 := by omega
  have l1 : 1 < n2 := by omega
  have l2i : (2 : Int) ≤ (n2 : Int) := by omega
  have l0i : (0 : Int) < (n2 : Int) := by omega
  have l1i : (1 : Int) < (n2 : Int) := by omega
  have hlr2 : n2 ≤ 200 := by omega
  clear hn2
  have hal : Below w.heap.size w (w.alloc (.cells #[.pointer (some ⟨R, 0, none⟩)] 49)) := bal (Below.refl _ _) _
  have h0 := h.later hal
  have HFA : Hid (Fr X w (w.alloc (.cells #[.pointer (some ⟨R, 0, none⟩)] 49)) X) := Fr.quiet hal
  have q0 : (w.alloc (.cells #[.pointer (some ⟨R, 0, none⟩)] 49)).cell? ⟨w.heap.size, 0, none⟩ = some (.pointer (some ⟨R, 0, none⟩)) := by simp [go_sem]
  have HXQ : Hid (¬ X w.heap.size) := fun e => by have := h.xb _ e; omega
  have c0 := h0.c0
  obtain ⟨gr, gcap, rfl, r0⟩ := h0.rowAt hi
  rw [hgd, hlr] at r0
  have x0 := h0.ints hi (j := 0) (by rw [hgd]; simp)
  have x1 := h0.ints hi (j := 1) (by rw [hgd]; simp)
  simp only [hgd, List.getElem_cons_zero, List.getElem_cons_succ] at x0 x1
  have fz0 := h0.fzc hi 0
  have fz1 := h0.fzc hi 1
  obtain ⟨o, ho, hont, hwo, hmem, hnd, hwat⟩ := turnC_fst hw hn
  have HP0 := hide (h0.put1 hi 0 b)
  have hgd1 : (B.cl.set i ((a :: b :: r).set 0 b)).getD i [] = b :: b :: r := by rw [getD_set hi]; simp
  rw [hgd] at HP0
  have HP1 := hide (HP0.out.put1 (i := i) (by simpa using hi) 1 nt)
  simp only [hgd1, List.set_set] at HP1
  have H0 := hide h0
  have hsz : w.heap.size < (w.alloc (.cells #[.pointer (some ⟨R, 0, none⟩)] 49)).heap.size := by simp
  have hki : (i : Int) < (B.cl.length : Int) := by omega
  have hcgx := h0.xi i hi
  have hcQ : w.heap.size ≠ cg i := fun e => HXQ.out (e ▸ hcgx)
  have HF2 : Hid (Fr X w (((w.alloc (.cells #[.pointer (some ⟨R, 0, none⟩)] 49)).setCell ⟨cg i, 0, none⟩ (.int .i64 b)).setCell ⟨cg i, 1, none⟩ (.int .i64 nt)) X) := (HFA.out.trans (Fr.set (q := ⟨cg i, 0, none⟩) hcgx _)).trans (Fr.set (q := ⟨cg i, 1, none⟩) hcgx _)
  have q2 : (((w.alloc (.cells #[.pointer (some ⟨R, 0, none⟩)] 49)).setCell ⟨cg i, 0, none⟩ (.int .i64 b)).setCell ⟨cg i, 1, none⟩ (.int .i64 nt)).cell? ⟨w.heap.size, 0, none⟩ = some (.pointer (some ⟨R, 0, none⟩)) := cell_set_far (cell_set_far q0 hcQ) hcQ
  have HO := hide ho
  have HW := hide hw
  have HT := hide (And.intro hont (And.intro hwo (And.intro hmem (And.intro hnd hwat))))
  have HSM := hide hsm
  have HN := hide hn
  have HC := hide hc
  have HGD := hide hgd
  clear h hal h0 hsz hcgx ho hw hont hwo hmem hnd hwat hsm hn hc hgd hgd1
  go_enter Tryz.func55, Tryz.ntmps55
  go_upto_if 21 with fail
  go_cut [] from 10 to 80 (fun wx => Hid (Mb wx X R S W nS nW (.slice (some ⟨gr, 0, none⟩) B.cl.length gcap) vs wk cg cc wv { B with cl := B.cl.set i (o :: nt :: r) }) ∧ Hid (Fr X w wx X) ∧ Hid (wx.cell? ⟨w.heap.size, 0, none⟩ = some (.pointer (some ⟨R, 0, none⟩))))
  case first =>
    by_cases hnt : a = nt
    · have ho' : o = b := by have := HO.out; simpa [hnt] using this
      subst ho' hnt
      clear HO
      go_wp2_with fail
      go_meet
      exact ⟨HP1, HF2, q2⟩
    · have ho' : o = a := by have := HO.out; simpa [hnt] using this
      have hb : b = nt := by rcases HW.out with e | e; exact absurd e.symm hnt; exact e.symm
      subst ho' hb
      clear HO
      have hntf : (o == b) = false := by simpa using hnt
      go_wp2_with fail
      go_meet
      refine ⟨?_, HFA, q0⟩
      rw [set_same HC.out]
      exact H0
  case rest =>
    obtain ⟨H1, HF1, HQ1⟩ := hcut
    clear HP0 HP1 H0 HFA HF2 q0 q2 c0 r0 x0 x1 fz0 fz1 hcQ HO HW
    have hi1 : i < (B.cl.set i (o :: nt :: r)).length := by simpa using hi
    have HG1 : Hid ((B.cl.set i (o :: nt :: r)).getD i [] = o :: nt :: r) := by unfold Hid; rw [getD_set hi]; simp
    have hsmo : Small o := HSM.out o ((HT.out.2.2.1 o).1 (by simp))
    have hsmt : Small nt := HSM.out nt ((HT.out.2.2.1 nt).1 (by simp))
    have HSR : Hid (∀ x ∈ r, Small x) := fun x hx => HSM.out x (by simp [hx])
    have HTC : Hid (B.turnC nt (a :: b :: r) = if B.so o then (o :: nt :: r, none) else match r.findIdx? (fun x => !B.so (-x)) with | none => (o :: nt :: r, none) | some j => (o :: r.getD j 0 :: r.set j nt, some (r.getD j 0))) := by
      obtain ⟨o', h1, h2, h3, h4, h5, h6⟩ := turnC_fst (nt := nt) (a := a) (b := b) (r := r) ((HT.out.2.2.2.2 nt).2 (.inr rfl)) HN.out
      have : o' = o := by
        have := (h6 o).1 HT.out.2.1
        rcases this with e | e
        · exact e.symm
        · exact absurd e HT.out.1
      subst this
      unfold Hid Bd.turnC
      simp only [← h1]
      rfl
    have HTN : Hid (B.turn i nt = match B.turnC nt (a :: b :: r) with | (c', some x) => { B with cl := B.cl.set i c', wt := upd B.wt x (B.wt x ++ [(i, c'.getD 0 0)]) } | (c', none) => { B with cl := B.cl.set i c' }) := by
      unfold Hid Bd.turn; rw [HGD.out]
    have HNX : Hid (∀ y ∈ r, y ≠ nt) := fun y hy e => by
      have := HT.out.2.2.2.1
      simp only [List.nodup_cons, List.mem_cons, not_or] at this
      exact this.2.1 (e ▸ hy)
    clear HT HSM HN HC
    have HSO := hide (fun (u : World) (hu : u.heap[R]? = wc.heap[R]? ∧ u.heap[S]? = wc.heap[S]?) => isSo_any R S nS B.st o hsmo u (by rw [World.cell?_of_block (w := wc) hu.1]; exact H1.out.c5) (H1.out.so.same hu.2))
    have x0 := H1.out.ints hi1 (j := 0) (by rw [HG1.out]; simp)
    simp only [HG1.out, List.getElem_cons_zero] at x0
    have q1 := HQ1.out
    generalize hB1 : ({ B with cl := B.cl.set i (o :: nt :: r) } : Bd) = B1 at *
    have HB1 := hide hB1
    clear hB1
    clear hln
    go_upto_region 4 with fail
    cases hso : decide (o ∈ B.st)
    · rw [hso] at HSO
      have hmf : ∀ (fn : Fn) (first cap : Array Value) (w : World), (Instr.makeFunc fn first cap).run Tryz.prog w = .ok (.func fn first cap) w := fun _ _ _ _ => rfl
      have HBG : Hid (B1.cl.getD i [] = o :: nt :: r ∧ i < B1.cl.length ∧ B1.st = B.st ∧ B1.wt = B.wt) := by rw [← HB1.out]; exact ⟨HG1.out, hi1, rfl, rfl⟩
      have HIX : Hid (∀ (p : Option Addr) (cap : Nat), (0 < r.length → p = some ⟨cg i, 2, none⟩) → Calls Tryz.prog 31 #[.slice p (n2 - 2) cap, .func (.func 77) #[] #[.pointer (some ⟨w.heap.size, 0, none⟩)]] wc.drew fun e w' => e = .returned (.int .i64 (findE (fun x => !decide (-x ∈ B.st)) r)) ∧ ∃ wk', Mb w' X R S W nS nW (.slice (some ⟨gr, 0, none⟩) B.cl.length gcap) vs wk' cg cc wv B1 ∧ Fr X w w' X ∧ w'.cell? ⟨w.heap.size, 0, none⟩ = some (.pointer (some ⟨R, 0, none⟩))) := fun p cap hp => by
        have hx := indexJ_any 77 (.pointer (some ⟨w.heap.size, 0, none⟩)) (fun x => !decide (-x ∈ B.st)) r p cap wc.drew (by unfold maxLen; have := HN2.out; omega)
          (fun wr => ∃ wk', Mb wr X R S W nS nW (.slice (some ⟨gr, 0, none⟩) B.cl.length gcap) vs wk' cg cc wv B1 ∧ Fr X w wr X ∧ wr.cell? ⟨w.heap.size, 0, none⟩ = some (.pointer (some ⟨R, 0, none⟩)))
          ⟨wk, H1.out.later (Below.refl _ wc).drew, HF1.out.trans (Fr.quiet (Below.refl _ wc).drew), HQ1.out⟩
          (fun wr ⟨wk', hM, _, _⟩ => fun h0 => ⟨cg i, 2, hp h0, fun j hj => by
            have := hM.ints HBG.out.2.1 (j := j + 2) (by rw [HBG.out.1]; simp; omega)
            simp only [HBG.out.1, List.getElem_cons_succ] at this
            rw [show 2 + j = j + 2 from Nat.add_comm _ _]
            exact this⟩) enter94
          (fun wr ⟨wk', hM, hF, hq⟩ j hj => (mayBe_any w.heap.size r[j] (HSR.out _ (List.getElem_mem hj)) wr X R S W nS nW _ vs wk' cg cc wv B1 hM hq).mono fun e w' ⟨he, wk2, hM2, hF2⟩ => ⟨by rw [he, HBG.out.2.2.1], wk2, hM2, hF.trans hF2, hF2.cell hq HXQ.out⟩)
        rw [show r.length = n2 - 2 by have := HN2.out; omega] at hx
        exact hx
      have hcap : n2 ≤ cc i := by
        have h9 := H1.out.cl i HBG.out.2.1
        rw [HBG.out.1] at h9
        rcases h9.2 with ⟨e, _⟩ | ⟨g, cap, cur, e, _, _, h10, _⟩
        · cases e
        · injection e with _ _ e3
          have := HN2.out
          simp only [List.length_cons] at h10
          omega
      have hcapi : (n2 : Int) ≤ (cc i : Int) := by omega
      have hcap2 : 2 ≤ cc i := by omega
      have hcap2i : (2 : Int) ≤ (cc i : Int) := by omega
      go_region_held3 (fun w' => w' = wc.drew) (first | rfl | go_keep) ((go_at_call 35; refine (HSO.out wc.drew ⟨rfl, rfl⟩).mono ?_; rintro e w' ⟨rfl, rfl⟩))
      by_cases hc2 : cc i = 2
      · have hr0 : r = [] := by have := HN2.out; exact List.eq_nil_of_length_eq_zero (by omega)
        go_wp2_with fail
        refine (HIX.out _ _ (fun h0 => by rw [hr0] at h0; simp at h0)).mono ?_
        rintro e w2 ⟨rfl, wk2, hM2, hF2, hq2⟩
        have HM2 := hide hM2
        have HFF2 := hide hF2
        clear HIX hM2 hF2
        have hfi : r.findIdx? (fun x => !B.so (-x)) = none := by rw [hr0]; rfl
        have hfe : findE (fun x => !decide (-x ∈ B.st)) r = -1 := by rw [hr0]; rfl
        rw [hfe]
        have HR : Hid (B.turnC nt (a :: b :: r) = (o :: nt :: r, none)) := by
          unfold Hid
          rw [HTC.out, if_neg (by rw [show B.so o = false from hso]; simp), hfi]
        rw [HR.out] at HTN
        clear hfe hfi HTC hr0
        go_wp2_with fail
        go_ret
        refine ⟨by rw [HR.out]; rfl, X, wk2, nW, wv, Nat.le_succ _, rfl, ?_, HFF2.out⟩
        rw [HTN.out, HB1.out]
        exact HM2.out
      · go_wp2_with fail
        refine (HIX.out _ _ (fun _ => rfl)).mono ?_
        rintro e w2 ⟨rfl, wk2, hM2, hF2, hq2⟩
        have HM2 := hide hM2
        have HFF2 := hide hF2
        clear HIX hM2 hF2
        cases hfi : r.findIdx? (fun x => !B.so (-x)) with
        | none =>
          have hfe : findE (fun x => !decide (-x ∈ B.st)) r = -1 := by
            have : r.findIdx? (fun x => !decide (-x ∈ B.st)) = none := hfi
            unfold findE; rw [this]
          rw [hfe]
          have HR : Hid (B.turnC nt (a :: b :: r) = (o :: nt :: r, none)) := by
            unfold Hid
            rw [HTC.out, if_neg (by rw [show B.so o = false from hso]; simp), hfi]
          rw [HR.out] at HTN
          clear hfe hfi HTC
          go_wp2_with fail
          go_ret
          refine ⟨by rw [HR.out]; rfl, X, wk2, nW, wv, Nat.le_succ _, rfl, ?_, HFF2.out⟩
          rw [HTN.out, HB1.out]
          exact HM2.out
        | some j =>
          obtain ⟨hj, hp, _⟩ := List.findIdx?_eq_some_iff_getElem.1 hfi
          have hfe : findE (fun x => !decide (-x ∈ B.st)) r = (j : Int) := by
            have : r.findIdx? (fun x => !decide (-x ∈ B.st)) = some j := hfi
            unfold findE; rw [this]
          rw [hfe]
          have hgx : r.getD j 0 = r[j] := by simp [List.getD, List.getElem?_eq_getElem hj]
          have HR : Hid (B.turnC nt (a :: b :: r) = (o :: r[j] :: r.set j nt, some r[j])) := by
            unfold Hid
            rw [HTC.out, if_neg (by rw [show B.so o = false from hso]; simp), hfi]
            simp only [hgx]
          rw [HR.out] at HTN
          have hsx : Small r[j] := HSR.out _ (List.getElem_mem hj)
          have HXN : Hid (nt ≠ r[j]) := fun e => HNX.out _ (List.getElem_mem hj) e.symm
          obtain ⟨m, hm⟩ : ∃ m : Nat, 2 + j = m := ⟨_, rfl⟩
          have hmn : m < n2 := by have := HN2.out; omega
          have hmi : (m : Int) < (n2 : Int) := by omega
          have hj0 : ¬ (j : Int) < 0 := by omega
          have y0 := HM2.out.ints HBG.out.2.1 (j := 0) (by rw [HBG.out.1]; simp)
          have y1 := HM2.out.ints HBG.out.2.1 (j := 1) (by rw [HBG.out.1]; simp)
          have y2' := HM2.out.ints HBG.out.2.1 (j := j + 2) (by rw [HBG.out.1]; simp; omega)
          simp only [HBG.out.1, List.getElem_cons_zero, List.getElem_cons_succ] at y0 y1 y2'
          have y2 : w2.cell? ⟨cg i, m, none⟩ = some (.int .i64 r[j]) := by rw [show m = j + 2 by omega]; exact y2'
          clear y2'
          have z1 := HM2.out.fzc HBG.out.2.1 1
          have z2 := HM2.out.fzc HBG.out.2.1 m
          have hp1 := HM2.out.put1 HBG.out.2.1 1 r[j]
          rw [HBG.out.1] at hp1
          have hg3 : (B1.cl.set i ((o :: nt :: r).set 1 r[j])).getD i [] = o :: r[j] :: r := by rw [getD_set HBG.out.2.1]; simp
          have hp2 := hp1.put1 (i := i) (by simpa using HBG.out.2.1) m nt
          simp only [hg3, List.set_set] at hp2
          rw [show (o :: r[j] :: r).set m nt = o :: r[j] :: r.set j nt by rw [← hm, Nat.add_comm]; rfl] at hp2
          have hB3 : ({ B1 with cl := B1.cl.set i (o :: r[j] :: r.set j nt) } : Bd) = { B with cl := B.cl.set i (o :: r[j] :: r.set j nt) } := by rw [← HB1.out]; simp
          rw [hB3] at hp2
          have HP2 := hide hp2
          have hXc := HM2.out.xi i HBG.out.2.1
          have hQ3 : w.heap.size ≠ cg i := fun e => HXQ.out (e ▸ hXc)
          have HF3 : Hid (Fr X w ((w2.setCell ⟨cg i, 1, none⟩ (.int .i64 r[j])).setCell ⟨cg i, m, none⟩ (.int .i64 nt)) X) := (HFF2.out.trans (Fr.set (q := ⟨cg i, 1, none⟩) hXc _)).trans (Fr.set (q := ⟨cg i, m, none⟩) hXc _)
          have q3 : ((w2.setCell ⟨cg i, 1, none⟩ (.int .i64 r[j])).setCell ⟨cg i, m, none⟩ (.int .i64 nt)).cell? ⟨w.heap.size, 0, none⟩ = some (.pointer (some ⟨R, 0, none⟩)) := cell_set_far (cell_set_far hq2 hQ3) hQ3
          have hi3 : i < (B.cl.set i (o :: r[j] :: r.set j nt)).length := by simpa using hi
          have hgg3 : (B.cl.set i (o :: r[j] :: r.set j nt)).getD i [] = o :: r[j] :: r.set j nt := by rw [getD_set hi]; simp
          have u0 := hp2.ints hi3 (j := 0) (by rw [hgg3]; simp)
          have u1 := hp2.ints hi3 (j := 1) (by rw [hgg3]; simp)
          simp only [hgg3, List.getElem_cons_zero, List.getElem_cons_succ] at u0 u1
          have HU := hide (And.intro u0 (And.intro u1 q3))
          have HG3 := hide hgg3
          clear u0 u1 q3
          have HWA := hide (fun (u : World) (hu : Below ((w2.setCell ⟨cg i, 1, none⟩ (.int .i64 r[j])).setCell ⟨cg i, m, none⟩ (.int .i64 nt)).heap.size ((w2.setCell ⟨cg i, 1, none⟩ (.int .i64 r[j])).setCell ⟨cg i, m, none⟩ (.int .i64 nt)) u) => watch_any u X R S W nS nW _ vs wk2 cg cc wv _ (HP2.out.later hu) r[j] i o hsx (hwt _) hnW)
          have hmf2 := hmf
          have hm1 : ¬ m = 1 := by omega
          have hm1' : ¬ 1 = m := by omega
          have HMJ := hide hm
          have hwr : wrap64 (2 + (j : Int)) = (m : Int) := by
            rw [wrap_in _ (by omega) (by omega)]; omega
          clear hm
          clear hp1 hp2 hg3 hB3 hgg3 hfe hfi HTC hp hgx HM2 HFF2 HBG hXc hsx hmf2 HSO HSR x0 q1 hq2 hQ3 H1 HF1 HQ1 HG1
          generalize r[j] = x at *
          go_upto_region 10 with fail
          generalize hjj : (j : Int) = jj at *
          go_upto_region 11 with fail
          generalize (w2.setCell ⟨cg i, 1, none⟩ (.int .i64 x)).setCell ⟨cg i, m, none⟩ (.int .i64 nt) = w3 at *
          obtain ⟨u0, u1, q3⟩ := HU.out
          clear y0 y1 y2 z1 z2 hwr
          go_region_held3 (fun w' => w'.cell? ⟨w.heap.size, 0, none⟩ = some (.pointer (some ⟨R, 0, none⟩)) ∧ w'.cell? ⟨cg i, 0, none⟩ = some (.int .i64 o) ∧ w'.cell? ⟨cg i, 1, none⟩ = some (.int .i64 x)) (first | exact ⟨q3, u0, u1⟩ | exact ⟨v2, v0, v1⟩ | go_keep)
            ((go_at_call 42; refine (HWA.out w3.drew (Below.refl _ w3).drew).mono ?_; rintro e w' ⟨rfl, X', v', hM4, hF4⟩
              have v0 := hM4.ints hi3 (j := 0) (by rw [HG3.out]; simp)
              have v1 := hM4.ints hi3 (j := 1) (by rw [HG3.out]; simp)
              simp only [HG3.out, List.getElem_cons_zero, List.getElem_cons_succ] at v0 v1
              have v2 := hF4.cell (q := ⟨w.heap.size, 0, none⟩) q3 HXQ.out
              have HM4 := hide hM4
              have HF4 := hide hF4
              clear hM4 hF4))
          go_wp2_with fail
          go_ret
          refine ⟨by rw [HR.out]; rfl, X', wk2, nW + 1, upd wv x v', Nat.le_refl _, upd_ne _ _ HXN.out, ?_, (HF3.out.trans (Fr.quiet (Below.refl _ w3).drew)).trans HF4.out⟩
          rw [HTN.out]
          exact HM4.out
    · rw [hso] at HSO
      go_region_held3 (fun w' => w' = wc.drew) (first | rfl | go_keep) ((go_at_call 35; refine (HSO.out wc.drew ⟨rfl, rfl⟩).mono ?_; rintro e w' ⟨rfl, rfl⟩))
      go_wp2_with fail
      go_ret
      have hs : B.so o = true := hso
      refine ⟨?_, X, wk, nW, Nat.le_succ _, wv, rfl, ?_, HF1.out.trans (Fr.quiet (Below.refl _ wc).drew)⟩
      · rw [HTC.out, if_pos hs]; rfl
      · rw [HTN.out, HTC.out, if_pos hs]
        simp only
        rw [HB1.out]
        exact H1.out.later (Below.refl _ wc).drew
end Go.Proofs.YtkinmangilbeeaaGreatDoor.Pf
