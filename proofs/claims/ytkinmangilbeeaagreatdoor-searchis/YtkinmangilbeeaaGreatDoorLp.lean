/- A clause is met while a lesson is made: the walk. -/
import Derived.Test.YtkinmangilbeeaaGreatDoorLo
import Derived.Shelf.Abstract
namespace Go.Proofs.YtkinmangilbeeaaGreatDoor.Sr
open Go.RowKit Go.Maps Go.Proofs.YtkinmangilbeeaaGreatDoor.Pf Go.Shelf
set_option maxRecDepth 100000
attribute [local go_sem] Oper.semAt_some

/-- A clause may be met. -/
structure MeetOk (n : Nat) (T : Lz) (c : List Int) : Prop where
  sm : ∀ x ∈ c, Small x
  len : c.length ≤ 1000
  ma : T.S.B.sp.length ≤ T.S.marks.length
  op : 0 ≤ T.op ∧ T.op ≤ 1000000
  oth : T.oth.length ≤ 100000
  q : ∀ k, k < c.length → (T.meet (c.take k)).S.skip (c.getD k 0) = false → QOk n (T.meet (c.take k)).S.Q ∧ (c.getD k 0).natAbs < n ∧ ((T.meet (c.take k)).S.Q.pl.getD (c.getD k 0).natAbs 0 = -1 ∨ (0 ≤ (T.meet (c.take k)).S.Q.pl.getD (c.getD k 0).natAbs 0 ∧ (T.meet (c.take k)).S.Q.pl.getD (c.getD k 0).natAbs 0 < (T.meet (c.take k)).S.Q.hp.length))
/-- Where a clause of the board lies. -/
theorem BdAt.clause {w : World} {X : Nat → Prop} {R nS nW : Nat} {B : Bd} (h : BdAt w X R nS nW B) {i : Nat} (hi : i < B.cl.length) :
    ∃ vb capc cg cap wk, w.cell? ⟨R, 0, none⟩ = some (.slice (some ⟨vb, 0, none⟩) B.cl.length capc) ∧ w.cell? ⟨vb, i, none⟩ = some (.slice (some ⟨cg, 0, none⟩) (B.cl.getD i []).length cap) ∧ IntsAt w (some ⟨cg, 0, none⟩) (B.cl.getD i []) ∧ X cg ∧ w.cell? ⟨R, 4, none⟩ = some (.int .i64 wk) ∧ w.frozen? ⟨R, 4, none⟩ = false ∧ vb ≠ R ∧ cg ≠ R ∧ X R := by
  obtain ⟨S, W, vc, vs, wk, cg, cc, wv, h⟩ := h
  have c0 := h.c0
  have hR := h.bd
  have tyne : ∀ g cs ty, ty ≠ 66 → w.heap[g]? = some (.cells cs ty (0, 0)) → g ≠ R := fun g cs ty hne e e2 => by
    subst e2
    rw [hR] at e
    injection e with e
    injection e with _ e _
    exact hne e.symm
  rcases h.rw.2 with ⟨_, h0⟩ | ⟨g, cap, cur, e, _, hg, hn, hm, hs, ht⟩
  · omega
  · subst e
    rcases (h.cl i hi).2 with ⟨e, _⟩ | ⟨g2, cap2, cur2, e2, _, hg2, hn2, hm2, hs2, ht2⟩
    · simp at e
    · obtain ⟨rfl, rfl⟩ : cg i = g2 ∧ cc i = cap2 := by simpa using e2
      refine ⟨g, cap, cg i, cc i, wk, c0, ?_, ?_, h.xi i hi, h.c4, h.fz 4, tyne g _ _ (by decide) hg, tyne _ _ _ (by decide) hg2, h.xr⟩
      · have := h.rw.cells (g := g) rfl i (.slice (some ⟨cg i, 0, none⟩) (B.cl.getD i []).length (cc i)) (by rw [List.getElem?_map, List.getElem?_range hi]; rfl)
        rw [Addr.add_lit, Nat.zero_add] at this
        exact this
      · refine fun h0 => ⟨_, _, rfl, fun j hj => ?_⟩
        have := (h.cl i hi).cells (g := cg i) rfl j (.int .i64 (B.cl.getD i [])[j]) (by rw [List.getElem?_map, List.getElem?_eq_getElem hj]; rfl)
        rw [Addr.add_lit] at this
        exact this
theorem BdAt.lv {w : World} {X : Nat → Prop} {R nS nW : Nat} {B : Bd} (h : BdAt w X R nS nW B) : w.cell? ⟨R, 2, none⟩ = some (.int .i64 B.level) := by
  obtain ⟨S, W, vc, vs, wk, cg, cc, wv, h⟩ := h
  exact h.c2
theorem skip_eq (T : Lz) (x : Int) : T.skip x = T.S.skip x := rfl
theorem meet1_skip {T : Lz} {x : Int} (h : T.S.skip x = true) : T.meet1 x = T := by unfold Lz.meet1; rw [skip_eq, h]; rfl
theorem meet1_not {T : Lz} {x : Int} (h : T.S.skip x = false) : T.meet1 x = ⟨{ T.S with marks := T.S.marks.set (T.S.B.st.idxOf (-x)) T.S.lessons, Q := T.S.Q.meet x.natAbs }, if lvOf T.S.B x = T.S.B.level then T.op + 1 else T.op, if lvOf T.S.B x = T.S.B.level then T.oth else T.oth ++ [x]⟩ := by unfold Lz.meet1; rw [skip_eq, h]; rfl
theorem skip_in {S : Sx} {x : Int} (h : S.skip x = false) : -x ∈ S.B.st := by
  unfold Sx.skip at h
  simp only [Bool.or_eq_false_iff, decide_eq_false_iff_not] at h
  exact Decidable.of_not_not h.1.1
set_option maxHeartbeats 8000000 in
theorem meet_s (base : Nat) (w : World) (s : Nat) (XB XQ : Nat → Prop) (R nS nW q gp gw gm gl : Nat) (vh vl vp : Value) (gs go gt : Nat) (vo : Value) (T : Lz) (h : Ls base w s XB XQ R nS nW q gp gw gm gl vh vl vp gs go gt vo T) (ci : Nat) (hci : ci < T.S.B.cl.length) (n : Nat) (ok : MeetOk n T (T.S.B.cl.getD ci [])) :
    Calls Tryz.prog 78 #[.int .i64 ci, .pointer (some ⟨gs, 0, none⟩), .pointer (some ⟨go, 0, none⟩), .pointer (some ⟨gt, 0, none⟩)] w fun e w' => e = .returned (.tuple #[]) ∧ (∃ vo', Ls base w' s XB XQ R nS nW q gp gw gm gl vh vl vp gs go gt vo' (T.meet (T.S.B.cl.getD ci [])) ∧ ∀ g, g < w.heap.size → vo'.ownBlock = some g → vo.ownBlock = some g) ∧ Below base w w' ∧ ∀ g, g < w.heap.size → Free base s XB XQ gm gl g → g ≠ go → g ≠ gt → vo.ownBlock ≠ some g → w'.heap[g]? = w.heap[g]? := by
  obtain ⟨vb, capc, cg, cap, wk, r0, r1, r2, xcg, r4, r5, n1, n2, xR⟩ := BdAt.clause h.ser.bd hci
  generalize hc : T.S.B.cl.getD ci [] = c at *
  have d1 := h.d1
  have HCS := hide (causes_new s ci w)
  have HL := hide h
  have HOK := hide ok
  have HR0 := hide (And.intro r0 (And.intro r1 (And.intro r2 (And.intro r4 r5))))
  clear h ok r0 r1 r2 r4 r5
  refine (callsIn_wide (n := 3)).1 (callsIn_of_wp_marks Tryz.func78 rfl trivial ?_ rfl)
  simp only [Tryz.ntmps78, List.size_toArray, List.length_cons, List.length_nil, Nat.reduceAdd, Nat.reduceSub, Array.replicate_succ, Array.replicate_zero, List.push_toArray, List.append_toArray, List.nil_append, List.cons_append]
  refine wpIn_wide.2 ?_
  go_wp2_with fail
  refine HCS.out.mono ?_
  rintro e w1 ⟨g1, g2, rfl, k1, k2, l1, l2, hb⟩
  have HB := hide hb
  have HK := hide (And.intro k1 (And.intro k2 (And.intro l1 l2)))
  clear hb k1 k2 l1 l2 HCS d1
  go_wp2_with fail
  obtain ⟨r0, r1, r2, r4, r5⟩ := HR0.out
  obtain ⟨k1, k2, l1, l2⟩ := HK.out
  have hws : w.heap.size ≤ w1.heap.size := HB.out.size
  have hxb : ∀ g, XB g ∨ XQ g → g < w.heap.size := by
    rintro g (e | e)
    · exact BdAt.xb HL.out.ser.bd g e
    · exact HL.out.ser.qu.xb g e
  obtain ⟨zs, zm, zl⟩ := HL.out.ser.ss
  obtain ⟨t1, t2, t3, t4⟩ := HL.out.lt
  have hbs : base ≤ w.heap.size := by have := HL.out.ser.sx; omega
  have hF1 : Free base s XB XQ gm gl g1 := ⟨fun e => by have := hxb g1 (.inl e); omega, fun e => by have := hxb g1 (.inr e); omega, by omega, by omega, by omega, by omega⟩
  have hRw : R < w.heap.size := hxb R (.inl xR)
  have hcw : cg < w.heap.size := hxb cg (.inl xcg)
  have HSEQ := hide (causes_seq 2 base s XB XQ R nS nW q gp gw gm gl vh vl vp (fun k => (T.meet (c.take k)).S) c g1 g2 cg vb T.S.B.cl.length capc cap ci w1 HOK.out.sm (by have := HOK.out.len; omega) (fun k _ => by simp only [meet_B, meet_len]; exact HOK.out.ma)
    (by rw [Lib.cell_of_heap k1]; rfl) k2 (cell_later HB.out HL.out.ser.s0) (cell_later HB.out r0) hci (cell_later HB.out r1) wk (cell_later HB.out r4) ((World.frozen?_of_block (a := ⟨R, 4, none⟩) (HB.out.block R hRw)).trans r5) n1 (by omega) (by omega) (fun e => HL.out.ser.sb (e ▸ xR)))
  have HI0 : Hid (Mt w vo base s XB XQ R nS nW q gp gw gm gl vh vl vp gs go gt g1 cg c (T.meet (c.take 0)) w1) := ⟨⟨vo, by rw [List.take_zero]; exact HL.out.later HB.out, (fun g hg e => by have := t4 g hg; omega), fun _ _ e => e⟩, k1, r2.later HB.out, HB.out.mono hbs, fun g hg _ _ _ _ => HB.out.block g hg⟩
  have HF := hide (And.intro hF1 (And.intro hxb (And.intro xcg (And.intro n2 (And.intro hws (And.intro hRw (And.intro hcw hbs)))))))
  have HG := hide (And.intro (show g1 ≠ gs by omega) (And.intro (show g1 ≠ go by omega) (show g1 ≠ gt by omega)))
  clear r0 r1 r2 r4 r5 k1 k2 l1 l2 hxb hF1 hRw hcw zs zm zl t1 t2 t3 t4 HK HR0 xcg n1 n2 xR hws hbs HL
  refine (wpIn_wide (n := 3)).1 ?_
  refine wp_rangeC (F := Fence.wide) (n := 3) rfl (by decide) (gf := 104) (lb := #[.pointer (some ⟨g1, 0, none⟩), .pointer (some ⟨g2, 0, none⟩)]) rfl trivial (enters_of Tryz.func104 (by kernel_rfl) rfl) (w0 := w1) HSEQ.out (Below.refl _ _)
    (fun k W => Mt w vo base s XB XQ R nS nW q gp gw gm gl vh vl vp gs go gt g1 cg c (T.meet (c.take k)) W) (Mt.own (fun g hg => Nat.lt_of_lt_of_le (HF.out.2.1 g hg) HF.out.2.2.2.2.1) (Nat.lt_of_lt_of_le HF.out.2.2.2.2.2.2.1 HF.out.2.2.2.2.1) (Nat.le_trans HF.out.2.2.2.2.2.2.2 HF.out.2.2.2.2.1) HF.out.2.2.2.2.1) HI0.out ?hU ?hV ?hsk ?hys
    (fun x => { tmps := #[.int .i64 ci, .pointer (some ⟨gs, 0, none⟩), .pointer (some ⟨go, 0, none⟩), .pointer (some ⟨gt, 0, none⟩), undef, x.getD 0 undef, x.getD 1 undef, .pointer (some ⟨s, 0, none⟩), .int .i64 ci, .func (.func 104) #[] #[.pointer (some ⟨g1, 0, none⟩), .pointer (some ⟨g2, 0, none⟩)], x.getD 0 undef, x.getD 1 undef, undef, undef, undef, undef, undef, undef, undef, undef, undef, undef, undef, undef, undef, undef, undef, undef, undef, undef, undef, undef, undef, undef, undef, undef, undef, undef, undef, undef, undef, undef, undef, undef, undef, undef, undef, undef, undef, undef, undef, undef, undef, undef], defers := [] }) ?assign ?body ?done
  case hU =>
    intro R' W x hJ
    have hlt : R < w1.heap.size := Nat.lt_of_lt_of_le HF.out.2.2.2.2.2.1 HF.out.2.2.2.2.1
    exact ⟨hJ.inv.work x HF.out.1.b HF.out.2.2.2.1, (heap_setCell_other _ _ _ _ (show w1.heap.size + 1 ≠ R by omega)).trans hJ.rec', (heap_setCell_other _ _ _ _ (show w1.heap.size ≠ R by omega)).trans hJ.dfr⟩
  case hV =>
    intro k W1 _ hI
    obtain ⟨vo', h1, _, _⟩ := hI.ls
    exact ⟨h1.ser, by rw [Lib.cell_of_heap hI.k1]; rfl, hI.cl⟩
  case hsk =>
    intro k W1 hI hk hy
    have hs : (T.meet (c.take k)).S.skip (c.getD k 0) = true := by
      unfold CauY at hy
      simp only at hy
      split at hy
      · assumption
      · cases hy
    show Mt w vo base s XB XQ R nS nW q gp gw gm gl vh vl vp gs go gt g1 cg c (T.meet (c.take (k + 1))) W1
    rw [meet_take hk, meet1_skip hs]
    exact hI
  case hys =>
    intro k x _ hy
    unfold CauY at hy
    split at hy
    · cases hy
    · injection hy with hy
      subst hy
      rfl
  case assign =>
    intro l k x W K _ hy hK
    unfold CauY at hy
    split at hy
    · cases hy
    · injection hy with hy
      subst hy
      generalize c.getD k 0 = xv at *
      generalize (T.meet (c.take k)).S.B.st.idxOf (-xv) = ix at *
      gi_wp2
      exact hK
  case body =>
    intro l k x W hI hk hy
    have hs : (T.meet (c.take k)).S.skip (c.getD k 0) = false ∧ x = #[.int .i64 (c.getD k 0), .int .i64 ((T.meet (c.take k)).S.B.st.idxOf (-(c.getD k 0)) : Nat)] := by
      unfold CauY at hy
      simp only at hy
      split at hy
      · cases hy
      · rename_i hns
        injection hy with hy
        exact ⟨by simpa using hns, hy.symm⟩
    obtain ⟨hs, rfl⟩ := hs
    have hgx : c.getD k 0 ∈ c := by rw [List.getD_eq_getElem?_getD, List.getElem?_eq_getElem hk]; exact List.getElem_mem hk
    have hsm := HOK.out.sm _ hgx
    obtain ⟨qok, qv, qp⟩ := HOK.out.q k hk hs
    have hmem := skip_in hs
    have HGO : Hid (∀ W', Mt w vo base s XB XQ R nS nW q gp gw gm gl vh vl vp gs go gt g1 cg c ((T.meet (c.take k)).meet1 (c.getD k 0)) W' → Mt w vo base s XB XQ R nS nW q gp gw gm gl vh vl vp gs go gt g1 cg c (T.meet (c.take (k + 1))) W') := fun W' h => by rw [meet_take hk]; exact h
    rw [meet1_not hs] at HGO
    have hmal : (T.meet (c.take k)).S.B.sp.length ≤ (T.meet (c.take k)).S.marks.length := by rw [meet_B, meet_len]; exact HOK.out.ma
    have hopl : 0 ≤ (T.meet (c.take k)).op ∧ (T.meet (c.take k)).op ≤ 2000000 := by
      have h1 := meet_op (c.take k) T
      have h2 := HOK.out.op
      have h3 := HOK.out.len
      have h4 : ((c.take k).length : Int) ≤ 1000 := by rw [List.length_take]; omega
      omega
    have hotl : (T.meet (c.take k)).oth.length < 1000000 := by
      have h1 := meet_oth (c.take k) T
      have h2 := HOK.out.oth
      have h3 := HOK.out.len
      have h4 : (c.take k).length ≤ 1000 := by rw [List.length_take]; omega
      omega
    have HI := hide hI
    clear hI hy hs hgx
    generalize c.getD k 0 = xv at *
    generalize T.meet (c.take k) = T1 at *
    have hi : T1.S.B.st.idxOf (-xv) < T1.S.B.st.length := List.idxOf_lt_length_of_mem hmem
    have his : T1.S.B.st.idxOf (-xv) < T1.S.B.sp.length := by rw [st_len] at hi; exact hi
    have HLV : Hid (lvOf T1.S.B xv = T1.S.B.sp[T1.S.B.st.idxOf (-xv)].2.1) := by
      unfold Hid lvOf
      rw [List.getD_eq_getElem?_getD, List.getElem?_eq_getElem his]
      rfl
    have hx1 := hsm.1
    have hx2 := hsm.2
    have e1 : (T1.S.B.st.idxOf (-xv) : Int) < (T1.S.B.sp.length : Int) := by omega
    have e2 : (0 : Int) ≤ (T1.S.B.st.idxOf (-xv) : Int) := by omega
    have e3 : (T1.S.B.st.idxOf (-xv) : Int) < (T1.S.marks.length : Int) := by omega
    obtain ⟨vo1, hL1, hv1, _⟩ := HI.out.ls
    have y0 := hL1.d1
    have y7 := hL1.ser.s7
    have y6 := hL1.ser.s6
    obtain ⟨pm, pf⟩ := map_cell hL1.ser.ma (k := T1.S.B.st.idxOf (-xv)) (by omega)
    have ngm : gs ≠ gm := hL1.f1.m
    have nsm : s ≠ gm := hL1.ser.sm
    have HHI := hide (And.intro hi his)
    generalize T1.S.marks.getD (T1.S.B.st.idxOf (-xv)) 0 = old at *
    generalize hlvx : T1.S.B.sp[T1.S.B.st.idxOf (-xv)].2.1 = lv at *
    clear hv1 hL1 hmem hi hsm
    replace HLV : Hid (lvOf T1.S.B xv = lv) := HLV
    have HLX := hide hlvx
    have HIS := hide his
    clear hlvx
    gi_wp2
    refine wpIn_round_held (S := (fun w' => w'.cell? ⟨gs, 0, none⟩ = some (.pointer (some ⟨s, 0, none⟩)) ∧ w'.cell? ⟨s, 7, none⟩ = some (.slice (some ⟨gm, 0, none⟩) T1.S.marks.length T1.S.marks.length) ∧ w'.cell? ⟨s, 6, none⟩ = some (.int .i64 T1.S.lessons))) (by kernel_rfl) (fun ⟨_, _, h⟩ => h) (by kernel_rfl) ⟨y0, y7, y6⟩ (fun hHeld => ?_)
    refine wpAnyH_take (i := 0) (oi := { dst := some 12, op := Op.load 55 (Operand.tmp 1), type := 55, pos := "lesson.go:48", after := #[], guard := none }) (v := ?v1) rfl (by kernel_rfl) (by kernel_rfl) (by kernel_rfl) (fun _ _ _ h => h) (Or.inl ⟨by rfl, ?hy1⟩) (by assumption) ?rest1
    case hy1 => (intro w hSw; (try dsimp only at hSw); go_simp; (try with_reducible rfl))
    simp only [Act.put, List.setIfInBounds_toArray, List.set_cons_zero, List.set_cons_succ]
    refine wpAnyH_take (i := 1) (oi := { dst := some 13, op := Op.nilCheck (Operand.tmp 12), type := 0, pos := "lesson.go:48", after := #[{ on := 0, ground := Ground.data }], guard := none }) (v := ?v2) rfl (by kernel_rfl) (by kernel_rfl) (by kernel_rfl) (fun _ _ _ h => h) (Or.inl ⟨by rfl, ?hy2⟩) (by assumption) ?rest2
    case hy2 => (intro w hSw; (try dsimp only at hSw); go_simp; (try with_reducible rfl))
    simp only [Act.put, List.setIfInBounds_toArray, List.set_cons_zero, List.set_cons_succ]
    refine wpAnyH_take (i := 2) (oi := { dst := some 14, op := Op.fieldAddr 82 (Operand.tmp 13) 6, type := 0, pos := "lesson.go:48", after := #[{ on := 1, ground := Ground.data }], guard := none }) (v := ?v3) rfl (by kernel_rfl) (by kernel_rfl) (by kernel_rfl) (fun _ _ _ h => h) (Or.inl ⟨by rfl, ?hy3⟩) (by assumption) ?rest3
    case hy3 => (intro w hSw; (try dsimp only at hSw); go_simp; (try with_reducible rfl))
    simp only [Act.put, List.setIfInBounds_toArray, List.set_cons_zero, List.set_cons_succ]
    refine wpAnyH_take (i := 3) (oi := { dst := some 15, op := Op.load 38 (Operand.tmp 14), type := 38, pos := "lesson.go:48", after := #[{ on := 2, ground := Ground.data }], guard := none }) (v := ?v4) rfl (by kernel_rfl) (by kernel_rfl) (by kernel_rfl) (fun _ _ _ h => h) (Or.inl ⟨by rfl, ?hy4⟩) (by assumption) ?rest4
    case hy4 => (intro w hSw; (try dsimp only at hSw); go_simp; (try with_reducible rfl))
    simp only [Act.put, List.setIfInBounds_toArray, List.set_cons_zero, List.set_cons_succ]
    refine wpAnyH_take (i := 4) (oi := { dst := some 16, op := Op.move (Operand.tmp 6), type := 3, pos := "lesson.go:48", after := #[], guard := none }) (v := ?v5) rfl (by kernel_rfl) (by kernel_rfl) (by kernel_rfl) (fun _ _ _ h => h) (Or.inl ⟨by rfl, ?hy5⟩) (by assumption) ?rest5
    case hy5 => (intro w hSw; (try dsimp only at hSw); go_simp; (try with_reducible rfl))
    simp only [Act.put, List.setIfInBounds_toArray, List.set_cons_zero, List.set_cons_succ]
    refine wpAnyH_take (i := 5) (oi := { dst := some 17, op := Op.load 55 (Operand.tmp 1), type := 55, pos := "lesson.go:48", after := #[], guard := none }) (v := ?v6) rfl (by kernel_rfl) (by kernel_rfl) (by kernel_rfl) (fun _ _ _ h => h) (Or.inl ⟨by rfl, ?hy6⟩) (by assumption) ?rest6
    case hy6 => (intro w hSw; (try dsimp only at hSw); go_simp; (try with_reducible rfl))
    simp only [Act.put, List.setIfInBounds_toArray, List.set_cons_zero, List.set_cons_succ]
    refine wpAnyH_take (i := 6) (oi := { dst := some 18, op := Op.nilCheck (Operand.tmp 17), type := 0, pos := "lesson.go:48", after := #[{ on := 5, ground := Ground.data }], guard := none }) (v := ?v7) rfl (by kernel_rfl) (by kernel_rfl) (by kernel_rfl) (fun _ _ _ h => h) (Or.inl ⟨by rfl, ?hy7⟩) (by assumption) ?rest7
    case hy7 => (intro w hSw; (try dsimp only at hSw); go_simp; (try with_reducible rfl))
    simp only [Act.put, List.setIfInBounds_toArray, List.set_cons_zero, List.set_cons_succ]
    refine wpAnyH_take (i := 7) (oi := { dst := some 19, op := Op.fieldAddr 82 (Operand.tmp 18) 5, type := 0, pos := "lesson.go:48", after := #[{ on := 6, ground := Ground.data }], guard := none }) (v := ?v8) rfl (by kernel_rfl) (by kernel_rfl) (by kernel_rfl) (fun _ _ _ h => h) (Or.inl ⟨by rfl, ?hy8⟩) (by assumption) ?rest8
    case hy8 => (intro w hSw; (try dsimp only at hSw); go_simp; (try with_reducible rfl))
    simp only [Act.put, List.setIfInBounds_toArray, List.set_cons_zero, List.set_cons_succ]
    refine wpAnyH_take (i := 8) (oi := { dst := some 20, op := Op.load 3 (Operand.tmp 19), type := 3, pos := "lesson.go:48", after := #[{ on := 7, ground := Ground.data }], guard := none }) (v := ?v9) rfl (by kernel_rfl) (by kernel_rfl) (by kernel_rfl) (fun _ _ _ h => h) (Or.inl ⟨by rfl, ?hy9⟩) (by assumption) ?rest9
    case hy9 => (intro w hSw; (try dsimp only at hSw); go_simp; (try with_reducible rfl))
    simp only [Act.put, List.setIfInBounds_toArray, List.set_cons_zero, List.set_cons_succ]
    refine wpAnyH_take (i := 9) (oi := { dst := some 21, op := Op.indexAddr 38 (Operand.tmp 15) (Operand.tmp 16), type := 0, pos := "lesson.go:48", after := #[{ on := 3, ground := Ground.data }, { on := 4, ground := Ground.data }, { on := 0, ground := Ground.phase }, { on := 1, ground := Ground.phase }, { on := 2, ground := Ground.phase }, { on := 3, ground := Ground.phase }, { on := 4, ground := Ground.phase }, { on := 5, ground := Ground.phase }, { on := 6, ground := Ground.phase }, { on := 7, ground := Ground.phase }, { on := 8, ground := Ground.phase }], guard := none }) (v := ?v10) rfl (by kernel_rfl) (by kernel_rfl) (by kernel_rfl) (fun _ _ _ h => h) (Or.inl ⟨by rfl, ?hy10⟩) (by assumption) ?rest10
    case hy10 => (intro w hSw; (try dsimp only at hSw); go_simp; (try with_reducible rfl))
    simp only [Act.put, List.setIfInBounds_toArray, List.set_cons_zero, List.set_cons_succ]
    refine wpAnyH_ready (rs := [10]) (by kernel_rfl) (by simp) ?_
    refine AllReadyH.cons (o := { dst := none, op := Op.store 3 (Operand.tmp 21) (Operand.tmp 20), type := 0, pos := "lesson.go:48", after := #[{ on := 9, ground := Ground.data }, { on := 8, ground := Ground.data }, { on := 0, ground := Ground.phase }, { on := 1, ground := Ground.phase }, { on := 2, ground := Ground.phase }, { on := 3, ground := Ground.phase }, { on := 4, ground := Ground.phase }, { on := 5, ground := Ground.phase }, { on := 6, ground := Ground.phase }, { on := 7, ground := Ground.phase }, { on := 8, ground := Ground.phase }], guard := none }) rfl (fun K hK => ?_) AllReadyH.nil
    go_simp
    refine hK.out _ _ ?hS11 (fun hHeld11 => ?rest11)
    case hS11 => exact ⟨cell_set_far y0 ngm, cell_set_far y7 nsm, cell_set_far y6 nsm⟩
    clear hK K
    (try simp only [Act.put, List.setIfInBounds_toArray, List.set_cons_zero, List.set_cons_succ])
    refine wpAnyH_done (by kernel_rfl) ?_ _
    obtain ⟨hM2, hK2⟩ := HI.out.setM (T1.S.B.st.idxOf (-xv)) T1.S.lessons HF.out.1.m HF.out.2.2.1 w1.heap.size
    have hcw2 : cg < (W.setCell ⟨gm, T1.S.B.st.idxOf (-xv), none⟩ (.int .i64 T1.S.lessons)).heap.size := by
      have h1 := HF.out.2.2.2.2.2.2.1
      have h2 := HI.out.bw.size
      simp
      omega
    have HM2 : Hid (Mt w vo base s XB XQ R nS nW q gp gw gm gl vh vl vp gs go gt g1 cg c _ (W.setCell ⟨gm, T1.S.B.st.idxOf (-xv), none⟩ (.int .i64 T1.S.lessons)).drew) := hM2.later (Below.refl _ _).drew hcw2
    have HK2 : Hid (KeepsFrom w1.heap.size W (W.setCell ⟨gm, T1.S.B.st.idxOf (-xv), none⟩ (.int .i64 T1.S.lessons)).drew) := hK2.trans (keeps_below (Below.refl _ _).drew)
    clear hM2 hK2 hcw2 y0 y7 y6 pm pf HI
    generalize (W.setCell ⟨gm, T1.S.B.st.idxOf (-xv), none⟩ (.int .i64 T1.S.lessons)).drew = W2 at *
    obtain ⟨vo2, hL2, _, _⟩ := HM2.out.ls
    have y0 := hL2.d1
    have y1 := hL2.ser.s1
    have HMQ := hide (meet_any W2.drew XQ q gp gw vh _ (hL2.ser.qu.later (Below.refl _ _).drew) n qok xv.natAbs qv qp)
    have nsq : ¬ XQ s := hL2.ser.sq
    have ngq : ¬ XQ gs := hL2.f1.q
    clear hL2
    gi_wp2
    refine wpIn_round_held (S := (fun w' => w'.cell? ⟨gs, 0, none⟩ = some (.pointer (some ⟨s, 0, none⟩)) ∧ w'.cell? ⟨s, 1, none⟩ = some (.pointer (some ⟨q, 0, none⟩)))) (by kernel_rfl) (fun ⟨_, _, h⟩ => h) (by kernel_rfl) ⟨y0, y1⟩ (fun hHeld => ?_)
    refine wpAnyH_take (i := 0) (oi := { dst := some 22, op := Op.load 55 (Operand.tmp 1), type := 55, pos := "lesson.go:49", after := #[], guard := none }) (v := ?v12) rfl (by kernel_rfl) (by kernel_rfl) (by kernel_rfl) (fun _ _ _ h => h) (Or.inl ⟨by rfl, ?hy12⟩) (by assumption) ?rest12
    case hy12 => (intro w hSw; (try dsimp only at hSw); go_simp; (try with_reducible rfl))
    simp only [Act.put, List.setIfInBounds_toArray, List.set_cons_zero, List.set_cons_succ]
    refine wpAnyH_take (i := 1) (oi := { dst := some 23, op := Op.nilCheck (Operand.tmp 22), type := 0, pos := "lesson.go:49", after := #[{ on := 0, ground := Ground.data }], guard := none }) (v := ?v13) rfl (by kernel_rfl) (by kernel_rfl) (by kernel_rfl) (fun _ _ _ h => h) (Or.inl ⟨by rfl, ?hy13⟩) (by assumption) ?rest13
    case hy13 => (intro w hSw; (try dsimp only at hSw); go_simp; (try with_reducible rfl))
    simp only [Act.put, List.setIfInBounds_toArray, List.set_cons_zero, List.set_cons_succ]
    refine wpAnyH_take (i := 2) (oi := { dst := some 24, op := Op.fieldAddr 82 (Operand.tmp 23) 1, type := 0, pos := "lesson.go:49", after := #[{ on := 1, ground := Ground.data }], guard := none }) (v := ?v14) rfl (by kernel_rfl) (by kernel_rfl) (by kernel_rfl) (fun _ _ _ h => h) (Or.inl ⟨by rfl, ?hy14⟩) (by assumption) ?rest14
    case hy14 => (intro w hSw; (try dsimp only at hSw); go_simp; (try with_reducible rfl))
    simp only [Act.put, List.setIfInBounds_toArray, List.set_cons_zero, List.set_cons_succ]
    refine wpAnyH_take (i := 3) (oi := { dst := some 25, op := Op.load 79 (Operand.tmp 24), type := 79, pos := "lesson.go:49", after := #[{ on := 2, ground := Ground.data }], guard := none }) (v := ?v15) rfl (by kernel_rfl) (by kernel_rfl) (by kernel_rfl) (fun _ _ _ h => h) (Or.inl ⟨by rfl, ?hy15⟩) (by assumption) ?rest15
    case hy15 => (intro w hSw; (try dsimp only at hSw); go_simp; (try with_reducible rfl))
    simp only [Act.put, List.setIfInBounds_toArray, List.set_cons_zero, List.set_cons_succ]
    refine wpAnyH_take (i := 4) (oi := { dst := some 26, op := Op.move (Operand.tmp 5), type := 3, pos := "lesson.go:49", after := #[], guard := none }) (v := ?v16) rfl (by kernel_rfl) (by kernel_rfl) (by kernel_rfl) (fun _ _ _ h => h) (Or.inl ⟨by rfl, ?hy16⟩) (by assumption) ?rest16
    case hy16 => (intro w hSw; (try dsimp only at hSw); go_simp; (try with_reducible rfl))
    simp only [Act.put, List.setIfInBounds_toArray, List.set_cons_zero, List.set_cons_succ]
    refine wpAnyH_ready (rs := [5]) (by kernel_rfl) (by simp) ?_
    refine AllReadyH.cons (o := { dst := some 27, op := Op.call { callee := Callee.value (Operand.func 60), args := #[Operand.tmp 26], argTypes := #[3] }, type := 3, pos := "lesson.go:49", after := #[{ on := 4, ground := Ground.data }], guard := none }) rfl (fun K hK => ?_) AllReadyH.nil
    go_simp
    refine (variableOf_any xv hx1 hx2 _).mono ?_
    rintro e wV ⟨rfl, rfl⟩
    (try go_simp)
    refine hK.out _ _ ?hS17 (fun hHeld17 => ?rest17)
    case hS17 => exact ⟨y0, y1⟩
    clear hK K
    (try simp only [Act.put, List.setIfInBounds_toArray, List.set_cons_zero, List.set_cons_succ])
    refine wpAnyH_ready (rs := [6]) (by kernel_rfl) (by simp) ?_
    refine AllReadyH.cons (o := { dst := some 28, op := Op.call { callee := Callee.value (Operand.func 59), args := #[Operand.tmp 25, Operand.tmp 27], argTypes := #[79, 3] }, type := 0, pos := "lesson.go:49", after := #[{ on := 3, ground := Ground.data }, { on := 5, ground := Ground.data }, { on := 5, ground := Ground.chain }], guard := none }) rfl (fun K hK => ?_) AllReadyH.nil
    go_simp
    refine HMQ.out.mono ?_
    rintro e wQ ⟨rfl, hQM, hFQ⟩
    (try go_simp)
    refine hK.out _ _ ?hS18 (fun hHeld18 => ?rest18)
    case hS18 => exact ⟨hFQ.cell y0 ngq, hFQ.cell y1 nsq⟩
    clear hK K
    (try simp only [Act.put, List.setIfInBounds_toArray, List.set_cons_zero, List.set_cons_succ])
    refine wpAnyH_done (by kernel_rfl) ?_ _
    have hcw3 : cg < W2.heap.size := by
      have h1 := HF.out.2.2.2.2.2.2.1
      have h2 := HM2.out.bw.size
      omega
    obtain ⟨hM3, hK3⟩ := (HM2.out.later (Below.refl _ W2).drew hcw3).queue hQM hFQ HF.out.1.q HF.out.2.2.1 (B := w1.heap.size) (fun g hg => Nat.lt_of_lt_of_le (HF.out.2.1 g hg) HF.out.2.2.2.2.1)
    have HM3 := hide hM3
    have HK3 : Hid (KeepsFrom w1.heap.size W wQ) := (HK2.out.trans (keeps_below (Below.refl _ W2).drew)).trans hK3
    obtain ⟨vo3, hL3, _, _⟩ := hM3.ls
    have y0 := hL3.d1
    have y2 := hL3.ser.s0
    obtain ⟨gg, cp, z1, z2, z3, z4⟩ := BdAt.step (B := T1.S.B) hL3.ser.bd his
    have y3 := BdAt.lv (B := T1.S.B) hL3.ser.bd
    rw [HLX.out] at z3
    have y5 := hL3.d2
    have y6 := hL3.z2
    clear hcw3 hM3 hK3 hL3 HM2 HK2 hQM hFQ HMQ nsq ngq y1 z2 z4 qok qv qp
    simp only at y5
    gi_wp2
    refine wpIn_round_held (S := (fun w' => w'.cell? ⟨gs, 0, none⟩ = some (.pointer (some ⟨s, 0, none⟩)) ∧ w'.cell? ⟨s, 0, none⟩ = some (.pointer (some ⟨R, 0, none⟩)) ∧ w'.cell? ⟨R, 1, none⟩ = some (.slice (some ⟨gg, 0, none⟩) T1.S.B.sp.length cp) ∧ w'.cell? ⟨gg, T1.S.B.st.idxOf (-xv) * 3 + 1, none⟩ = some (.int .i64 lv) ∧ w'.cell? ⟨R, 2, none⟩ = some (.int .i64 T1.S.B.level))) (by kernel_rfl) (fun ⟨_, _, h⟩ => h) (by kernel_rfl) ⟨y0, y2, z1, z3, y3⟩ (fun hHeld => ?_)
    refine wpAnyH_take (i := 0) (oi := { dst := some 29, op := Op.load 55 (Operand.tmp 1), type := 55, pos := "lesson.go:50", after := #[], guard := none }) (v := ?v19) rfl (by kernel_rfl) (by kernel_rfl) (by kernel_rfl) (fun _ _ _ h => h) (Or.inl ⟨by rfl, ?hy19⟩) (by assumption) ?rest19
    case hy19 => (intro w hSw; (try dsimp only at hSw); go_simp; (try with_reducible rfl))
    simp only [Act.put, List.setIfInBounds_toArray, List.set_cons_zero, List.set_cons_succ]
    refine wpAnyH_take (i := 1) (oi := { dst := some 30, op := Op.nilCheck (Operand.tmp 29), type := 0, pos := "lesson.go:50", after := #[{ on := 0, ground := Ground.data }], guard := none }) (v := ?v20) rfl (by kernel_rfl) (by kernel_rfl) (by kernel_rfl) (fun _ _ _ h => h) (Or.inl ⟨by rfl, ?hy20⟩) (by assumption) ?rest20
    case hy20 => (intro w hSw; (try dsimp only at hSw); go_simp; (try with_reducible rfl))
    simp only [Act.put, List.setIfInBounds_toArray, List.set_cons_zero, List.set_cons_succ]
    refine wpAnyH_take (i := 2) (oi := { dst := some 31, op := Op.fieldAddr 82 (Operand.tmp 30) 0, type := 0, pos := "lesson.go:50", after := #[{ on := 1, ground := Ground.data }], guard := none }) (v := ?v21) rfl (by kernel_rfl) (by kernel_rfl) (by kernel_rfl) (fun _ _ _ h => h) (Or.inl ⟨by rfl, ?hy21⟩) (by assumption) ?rest21
    case hy21 => (intro w hSw; (try dsimp only at hSw); go_simp; (try with_reducible rfl))
    simp only [Act.put, List.setIfInBounds_toArray, List.set_cons_zero, List.set_cons_succ]
    refine wpAnyH_take (i := 3) (oi := { dst := some 32, op := Op.load 49 (Operand.tmp 31), type := 49, pos := "lesson.go:50", after := #[{ on := 2, ground := Ground.data }], guard := none }) (v := ?v22) rfl (by kernel_rfl) (by kernel_rfl) (by kernel_rfl) (fun _ _ _ h => h) (Or.inl ⟨by rfl, ?hy22⟩) (by assumption) ?rest22
    case hy22 => (intro w hSw; (try dsimp only at hSw); go_simp; (try with_reducible rfl))
    simp only [Act.put, List.setIfInBounds_toArray, List.set_cons_zero, List.set_cons_succ]
    refine wpAnyH_take (i := 4) (oi := { dst := some 33, op := Op.nilCheck (Operand.tmp 32), type := 0, pos := "lesson.go:50", after := #[{ on := 3, ground := Ground.data }], guard := none }) (v := ?v23) rfl (by kernel_rfl) (by kernel_rfl) (by kernel_rfl) (fun _ _ _ h => h) (Or.inl ⟨by rfl, ?hy23⟩) (by assumption) ?rest23
    case hy23 => (intro w hSw; (try dsimp only at hSw); go_simp; (try with_reducible rfl))
    simp only [Act.put, List.setIfInBounds_toArray, List.set_cons_zero, List.set_cons_succ]
    refine wpAnyH_take (i := 5) (oi := { dst := some 34, op := Op.fieldAddr 66 (Operand.tmp 33) 1, type := 0, pos := "lesson.go:50", after := #[{ on := 4, ground := Ground.data }], guard := none }) (v := ?v24) rfl (by kernel_rfl) (by kernel_rfl) (by kernel_rfl) (fun _ _ _ h => h) (Or.inl ⟨by rfl, ?hy24⟩) (by assumption) ?rest24
    case hy24 => (intro w hSw; (try dsimp only at hSw); go_simp; (try with_reducible rfl))
    simp only [Act.put, List.setIfInBounds_toArray, List.set_cons_zero, List.set_cons_succ]
    refine wpAnyH_take (i := 6) (oi := { dst := some 35, op := Op.load 64 (Operand.tmp 34), type := 64, pos := "lesson.go:50", after := #[{ on := 5, ground := Ground.data }], guard := none }) (v := ?v25) rfl (by kernel_rfl) (by kernel_rfl) (by kernel_rfl) (fun _ _ _ h => h) (Or.inl ⟨by rfl, ?hy25⟩) (by assumption) ?rest25
    case hy25 => (intro w hSw; (try dsimp only at hSw); go_simp; (try with_reducible rfl))
    simp only [Act.put, List.setIfInBounds_toArray, List.set_cons_zero, List.set_cons_succ]
    refine wpAnyH_take (i := 7) (oi := { dst := some 36, op := Op.move (Operand.tmp 6), type := 3, pos := "lesson.go:50", after := #[], guard := none }) (v := ?v26) rfl (by kernel_rfl) (by kernel_rfl) (by kernel_rfl) (fun _ _ _ h => h) (Or.inl ⟨by rfl, ?hy26⟩) (by assumption) ?rest26
    case hy26 => (intro w hSw; (try dsimp only at hSw); go_simp; (try with_reducible rfl))
    simp only [Act.put, List.setIfInBounds_toArray, List.set_cons_zero, List.set_cons_succ]
    refine wpAnyH_take (i := 8) (oi := { dst := some 37, op := Op.indexAddr 64 (Operand.tmp 35) (Operand.tmp 36), type := 0, pos := "lesson.go:50", after := #[{ on := 6, ground := Ground.data }, { on := 7, ground := Ground.data }], guard := none }) (v := ?v27) rfl (by kernel_rfl) (by kernel_rfl) (by kernel_rfl) (fun _ _ _ h => h) (Or.inl ⟨by rfl, ?hy27⟩) (by assumption) ?rest27
    case hy27 => (intro w hSw; (try dsimp only at hSw); go_simp; (try with_reducible rfl))
    simp only [Act.put, List.setIfInBounds_toArray, List.set_cons_zero, List.set_cons_succ]
    refine wpAnyH_take (i := 9) (oi := { dst := some 38, op := Op.fieldAddr 76 (Operand.tmp 37) 1, type := 0, pos := "lesson.go:50", after := #[{ on := 8, ground := Ground.data }], guard := none }) (v := ?v28) rfl (by kernel_rfl) (by kernel_rfl) (by kernel_rfl) (fun _ _ _ h => h) (Or.inl ⟨by rfl, ?hy28⟩) (by assumption) ?rest28
    case hy28 => (intro w hSw; (try dsimp only at hSw); go_simp; (try with_reducible rfl))
    simp only [Act.put, List.setIfInBounds_toArray, List.set_cons_zero, List.set_cons_succ]
    refine wpAnyH_take (i := 10) (oi := { dst := some 39, op := Op.load 3 (Operand.tmp 38), type := 3, pos := "lesson.go:50", after := #[{ on := 9, ground := Ground.data }], guard := none }) (v := ?v29) rfl (by kernel_rfl) (by kernel_rfl) (by kernel_rfl) (fun _ _ _ h => h) (Or.inl ⟨by rfl, ?hy29⟩) (by assumption) ?rest29
    case hy29 => (intro w hSw; (try dsimp only at hSw); go_simp; (try with_reducible rfl))
    simp only [Act.put, List.setIfInBounds_toArray, List.set_cons_zero, List.set_cons_succ]
    refine wpAnyH_take (i := 11) (oi := { dst := some 40, op := Op.load 55 (Operand.tmp 1), type := 55, pos := "lesson.go:50", after := #[], guard := none }) (v := ?v30) rfl (by kernel_rfl) (by kernel_rfl) (by kernel_rfl) (fun _ _ _ h => h) (Or.inl ⟨by rfl, ?hy30⟩) (by assumption) ?rest30
    case hy30 => (intro w hSw; (try dsimp only at hSw); go_simp; (try with_reducible rfl))
    simp only [Act.put, List.setIfInBounds_toArray, List.set_cons_zero, List.set_cons_succ]
    refine wpAnyH_take (i := 12) (oi := { dst := some 41, op := Op.nilCheck (Operand.tmp 40), type := 0, pos := "lesson.go:50", after := #[{ on := 11, ground := Ground.data }], guard := none }) (v := ?v31) rfl (by kernel_rfl) (by kernel_rfl) (by kernel_rfl) (fun _ _ _ h => h) (Or.inl ⟨by rfl, ?hy31⟩) (by assumption) ?rest31
    case hy31 => (intro w hSw; (try dsimp only at hSw); go_simp; (try with_reducible rfl))
    simp only [Act.put, List.setIfInBounds_toArray, List.set_cons_zero, List.set_cons_succ]
    refine wpAnyH_take (i := 13) (oi := { dst := some 42, op := Op.fieldAddr 82 (Operand.tmp 41) 0, type := 0, pos := "lesson.go:50", after := #[{ on := 12, ground := Ground.data }], guard := none }) (v := ?v32) rfl (by kernel_rfl) (by kernel_rfl) (by kernel_rfl) (fun _ _ _ h => h) (Or.inl ⟨by rfl, ?hy32⟩) (by assumption) ?rest32
    case hy32 => (intro w hSw; (try dsimp only at hSw); go_simp; (try with_reducible rfl))
    simp only [Act.put, List.setIfInBounds_toArray, List.set_cons_zero, List.set_cons_succ]
    refine wpAnyH_take (i := 14) (oi := { dst := some 43, op := Op.load 49 (Operand.tmp 42), type := 49, pos := "lesson.go:50", after := #[{ on := 13, ground := Ground.data }], guard := none }) (v := ?v33) rfl (by kernel_rfl) (by kernel_rfl) (by kernel_rfl) (fun _ _ _ h => h) (Or.inl ⟨by rfl, ?hy33⟩) (by assumption) ?rest33
    case hy33 => (intro w hSw; (try dsimp only at hSw); go_simp; (try with_reducible rfl))
    simp only [Act.put, List.setIfInBounds_toArray, List.set_cons_zero, List.set_cons_succ]
    refine wpAnyH_take (i := 15) (oi := { dst := some 44, op := Op.nilCheck (Operand.tmp 43), type := 0, pos := "lesson.go:50", after := #[{ on := 14, ground := Ground.data }], guard := none }) (v := ?v34) rfl (by kernel_rfl) (by kernel_rfl) (by kernel_rfl) (fun _ _ _ h => h) (Or.inl ⟨by rfl, ?hy34⟩) (by assumption) ?rest34
    case hy34 => (intro w hSw; (try dsimp only at hSw); go_simp; (try with_reducible rfl))
    simp only [Act.put, List.setIfInBounds_toArray, List.set_cons_zero, List.set_cons_succ]
    refine wpAnyH_take (i := 16) (oi := { dst := some 45, op := Op.fieldAddr 66 (Operand.tmp 44) 2, type := 0, pos := "lesson.go:50", after := #[{ on := 15, ground := Ground.data }], guard := none }) (v := ?v35) rfl (by kernel_rfl) (by kernel_rfl) (by kernel_rfl) (fun _ _ _ h => h) (Or.inl ⟨by rfl, ?hy35⟩) (by assumption) ?rest35
    case hy35 => (intro w hSw; (try dsimp only at hSw); go_simp; (try with_reducible rfl))
    simp only [Act.put, List.setIfInBounds_toArray, List.set_cons_zero, List.set_cons_succ]
    refine wpAnyH_take (i := 17) (oi := { dst := some 46, op := Op.load 3 (Operand.tmp 45), type := 3, pos := "lesson.go:50", after := #[{ on := 16, ground := Ground.data }], guard := none }) (v := ?v36) rfl (by kernel_rfl) (by kernel_rfl) (by kernel_rfl) (fun _ _ _ h => h) (Or.inl ⟨by rfl, ?hy36⟩) (by assumption) ?rest36
    case hy36 => (intro w hSw; (try dsimp only at hSw); go_simp; (try with_reducible rfl))
    simp only [Act.put, List.setIfInBounds_toArray, List.set_cons_zero, List.set_cons_succ]
    refine wpAnyH_take (i := 18) (oi := { dst := some 47, op := Op.binOp BinOp.eql 3 (Operand.tmp 39) (Operand.tmp 46) 3, type := 4, pos := "lesson.go:50", after := #[{ on := 10, ground := Ground.data }, { on := 17, ground := Ground.data }], guard := none }) (v := ?v37) rfl (by kernel_rfl) (by kernel_rfl) (by kernel_rfl) (fun _ _ _ h => h) (Or.inl ⟨by rfl, ?hy37⟩) (by assumption) ?rest37
    case hy37 => (intro w hSw; (try dsimp only at hSw); go_simp; (try with_reducible rfl))
    simp only [Act.put, List.setIfInBounds_toArray, List.set_cons_zero, List.set_cons_succ]
    refine wpAnyH_done (by kernel_rfl) ?_ _
    have hcw4 : cg < wQ.heap.size := by
      have h1 := HF.out.2.2.2.2.2.2.1
      have h2 := HM3.out.bw.size
      omega
    have HM4 := hide (HM3.out.later (Below.refl _ wQ).drew hcw4)
    have HK4 : Hid (KeepsFrom w1.heap.size W wQ.drew) := HK3.out.trans (keeps_below (Below.refl _ wQ).drew)
    replace y5 : wQ.drew.cell? ⟨go, 0, none⟩ = some (.int .i64 T1.op) := y5
    replace y6 : wQ.drew.frozen? ⟨go, 0, none⟩ = false := y6
    clear hcw4 HM3 HK3 y0 y2 y3 z1 z3
    generalize wQ.drew = W5 at *
    by_cases hlv : lv = T1.S.B.level
    · have hb1 : (lv == T1.S.B.level) = true := by simpa using hlv
      have ww1 := wrap_in (T1.op + 1) (by omega) (by omega)
      obtain ⟨hM6, hK6⟩ := HM4.out.setO (T1.op + 1) HG.out.2.1 HF.out.2.2.1 w1.heap.size
      rw [if_pos (HLV.out.trans hlv), if_pos (HLV.out.trans hlv)] at HGO
      have HFN := hide (And.intro (HK4.out.trans hK6) (HGO.out _ hM6))
      clear hM6 hK6 HGO hlv HM4 HK4
      rw [hb1]
      gi_wp2
      exact HFN.out
    · have hb1 : (lv == T1.S.B.level) = false := by simpa using hlv
      obtain ⟨v0, v1, W6, d0, d1, d2, ⟨p0, k0, rfl⟩, hrun, ⟨p1, k1, rfl⟩, hM6, hK6⟩ := HM4.out.push xv hotl HG.out.2.2 HF.out.2.2.1 w1.heap.size
      rw [if_neg (fun e => hlv (HLV.out.symm.trans e)), if_neg (fun e => hlv (HLV.out.symm.trans e))] at HGO
      have HFN := hide (And.intro (HK4.out.trans hK6) (HGO.out _ hM6))
      clear hM6 hK6 HGO hlv HM4 HK4
      rw [hb1]
      gi_wp2_with (gi_at_builtin; refine wpListIn_append_run _ rfl _ _ _ _ rfl _ _ rfl rfl _ _ hrun ?_)
      exact HFN.out
  case done =>
    intro D W hD hI hK
    have HI := hide hI
    clear hI
    gi_wp2
    refine ⟨by simp, .inl ⟨_, _, rfl, run_takeDeferred hK, ?_⟩⟩
    refine ⟨_, results_none rfl _ _ _, rfl, ?_⟩
    have hl := Mt.own (F := fun k => T.meet (c.take k)) (fun g hg => Nat.lt_of_lt_of_le (HF.out.2.1 g hg) HF.out.2.2.2.2.1) (Nat.lt_of_lt_of_le HF.out.2.2.2.2.2.2.1 HF.out.2.2.2.2.1) (Nat.le_trans HF.out.2.2.2.2.2.2.2 HF.out.2.2.2.2.1) HF.out.2.2.2.2.1 _ W _ (some D) HI.out (grownBy_putObj' W D (.deferred none)) (fun r e => by cases e; exact ⟨hD, _, hK, rfl⟩)
    simp only at hl
    rw [List.take_of_length_le (Nat.le_refl _)] at hl
    obtain ⟨vo', h1, _, h3⟩ := hl.ls
    exact ⟨⟨vo', h1, h3⟩, hl.bw, hl.fr⟩
end Go.Proofs.YtkinmangilbeeaaGreatDoor.Sr
