/- A lesson is made: the walk. -/
import Derived.Test.YtkinmangilbeeaaGreatDoorLp
import Derived.Laws.ResultCell
namespace Go.Proofs.YtkinmangilbeeaaGreatDoor.Sr
open Go.RowKit Go.Maps Go.Proofs.YtkinmangilbeeaaGreatDoor.Pf
set_option maxRecDepth 100000

/-- The walk over the steps, from the last one down, until one is open: the state and the place at its end. -/
def DoneW (T : Lz) (p : Nat) (T' : Lz) (p' : Nat) : Prop := p < T.S.B.sp.length ∧ p < T.S.marks.length ∧ T.op ≤ 1 ∧ T.S.marks.getD p 0 = T.S.lessons ∧ T' = T ∧ p' = p
def WkR (n : Nat) : Nat → Lz → Lz → Nat → Prop
  | 0, T, T', p' => DoneW T 0 T' p'
  | p + 1, T, T', p' => DoneW T (p + 1) T' p' ∨ (p + 1 < T.S.marks.length ∧ T.S.marks.getD (p + 1) 0 ≠ T.S.lessons ∧ WkR n p T T' p') ∨ ∃ (ci : Nat) (_h : p + 1 < T.S.B.sp.length), p + 1 < T.S.marks.length ∧ 1 < T.op ∧ T.S.marks.getD (p + 1) 0 = T.S.lessons ∧ T.S.B.sp[p + 1].2.2 = ci ∧ ci < T.S.B.cl.length ∧ MeetOk n T (T.S.B.cl.getD ci []) ∧ WkR n p { T.meet (T.S.B.cl.getD ci []) with op := (T.meet (T.S.B.cl.getD ci [])).op - 1 } T' p'
def Wk (n : Nat) (T : Lz) (p : Nat) (T' : Lz) (p' : Nat) : Prop := WkR n p T T' p'
theorem Wk.done {n : Nat} {T : Lz} {p : Nat} (h1 : p < T.S.B.sp.length) (h2 : p < T.S.marks.length) (h3 : T.op ≤ 1) (h4 : T.S.marks.getD p 0 = T.S.lessons) : Wk n T p T p := by
  cases p with
  | zero => exact ⟨h1, h2, h3, h4, rfl, rfl⟩
  | succ p => exact .inl ⟨h1, h2, h3, h4, rfl, rfl⟩
theorem Wk.pass {n : Nat} {T : Lz} {p : Nat} {T' : Lz} {p' : Nat} (h1 : p + 1 < T.S.marks.length) (h2 : T.S.marks.getD (p + 1) 0 ≠ T.S.lessons) (h3 : Wk n T p T' p') : Wk n T (p + 1) T' p' := .inr (.inl ⟨h1, h2, h3⟩)
theorem Wk.meet {n : Nat} {T : Lz} {p : Nat} {T' : Lz} {p' : Nat} {ci : Nat} (h : p + 1 < T.S.B.sp.length) (h1 : p + 1 < T.S.marks.length) (h2 : 1 < T.op) (h3 : T.S.marks.getD (p + 1) 0 = T.S.lessons) (h4 : T.S.B.sp[p + 1].2.2 = ci) (h5 : ci < T.S.B.cl.length) (h6 : MeetOk n T (T.S.B.cl.getD ci [])) (h7 : Wk n { T.meet (T.S.B.cl.getD ci []) with op := (T.meet (T.S.B.cl.getD ci [])).op - 1 } p T' p') : Wk n T (p + 1) T' p' := .inr (.inr ⟨ci, h, h1, h2, h3, h4, h5, h6, h7⟩)
theorem Wk.inv {n : Nat} {T : Lz} {p : Nat} {T' : Lz} {p' : Nat} (h : Wk n T p T' p') : DoneW T p T' p' ∨ (∃ p0, p = p0 + 1 ∧ p0 + 1 < T.S.marks.length ∧ T.S.marks.getD (p0 + 1) 0 ≠ T.S.lessons ∧ Wk n T p0 T' p') ∨ ∃ (p0 ci : Nat) (_h : p0 + 1 < T.S.B.sp.length), p = p0 + 1 ∧ p0 + 1 < T.S.marks.length ∧ 1 < T.op ∧ T.S.marks.getD (p0 + 1) 0 = T.S.lessons ∧ T.S.B.sp[p0 + 1].2.2 = ci ∧ ci < T.S.B.cl.length ∧ MeetOk n T (T.S.B.cl.getD ci []) ∧ Wk n { T.meet (T.S.B.cl.getD ci []) with op := (T.meet (T.S.B.cl.getD ci [])).op - 1 } p0 T' p' := by
  cases p with
  | zero => exact .inl h
  | succ p =>
    rcases h with h | ⟨h1, h2, h3⟩ | ⟨ci, h, h1, h2, h3, h4, h5, h6, h7⟩
    · exact .inl h
    · exact .inr (.inl ⟨p, rfl, h1, h2, h3⟩)
    · exact .inr (.inr ⟨p, ci, h, rfl, h1, h2, h3, h4, h5, h6, h7⟩)
/-- What lesson leaves. -/
def LeOut (base : Nat) (w : World) (s : Nat) (XB XQ : Nat → Prop) (R nS nW q gp gw gm gl : Nat) (vh vl vp : Value) (T' : Lz) (x : Int) (e : Ending) (w' : World) : Prop :=
  (∃ vo, e = .returned (.tuple #[vo, .int .i64 x]) ∧ w'.ownsRow 0 3 1 vo T'.oth.length (T'.oth.map (Value.int .i64)) ∧ ∀ g, vo.ownBlock = some g → Free base s XB XQ gm gl g ∧ w.heap.size ≤ g) ∧ Ser base w' s XB XQ R nS nW q gp gw gm gl vh vl vp T'.S ∧ Below base w w' ∧ ∀ g, g < w.heap.size → Free base s XB XQ gm gl g → w'.heap[g]? = w.heap[g]?
theorem BdAt.stepX {w : World} {X : Nat → Prop} {R nS nW : Nat} {B : Bd} (h : BdAt w X R nS nW B) {j : Nat} (hj : j < B.sp.length) : ∃ g cap, w.cell? ⟨R, 1, none⟩ = some (.slice (some ⟨g, 0, none⟩) B.sp.length cap) ∧ w.cell? ⟨g, j * 3, none⟩ = some (.int .i64 B.sp[j].1) ∧ w.cell? ⟨g, j * 3 + 2, none⟩ = some (.int .i64 B.sp[j].2.2) ∧ X g ∧ X R := by
  obtain ⟨g, cap, h1, h2, _, h4⟩ := BdAt.step h hj
  obtain ⟨S, W, vc, vs, wk, cg, cc, wv, h⟩ := h
  have c1 := h.c1
  rw [h1] at c1
  injection c1 with c1
  exact ⟨g, cap, h1, h2, h4, h.xt g (by rw [← c1]; rfl), h.xr⟩
section
variable {base : Nat} {w : World} {s : Nat} {XB XQ : Nat → Prop} {R nS nW q gp gw gm gl : Nat} {vh vl vp : Value} {S : Sx}
theorem Ser.free (h : Ser base w s XB XQ R nS nW q gp gw gm gl vh vl vp S) {g : Nat} (hg : w.heap.size ≤ g) : Free base s XB XQ gm gl g := by
  obtain ⟨h1, h2, h3⟩ := h.ss
  have h4 := h.sx
  exact ⟨fun e => by have := BdAt.xb h.bd g e; omega, fun e => by have := h.qu.xb g e; omega, by omega, by omega, by omega, by omega⟩
/-- A lesson begins. -/
theorem Ls.begin (h : Ser base w s XB XQ R nS nW q gp gw gm gl vh vl vp S) {w2 : World} (hb : Below w.heap.size w w2) (h1 : w2.heap[w.heap.size]? = some (.cells #[.pointer (some ⟨s, 0, none⟩)] 55)) (h2 : w2.heap[w.heap.size + 1]? = some (.cells #[.slice none 0 0] 38)) (h3 : w2.heap[w.heap.size + 1 + 1]? = some (.cells #[.int .i64 0] 3)) :
    Ls base w2 s XB XQ R nS nW q gp gw gm gl vh vl vp w.heap.size (w.heap.size + 1 + 1) (w.heap.size + 1) (.slice none 0 0) ⟨S, 0, []⟩ :=
  ⟨h.later hb, h1, h3, h2, ⟨rfl, .inl ⟨rfl, rfl⟩⟩, h.free (Nat.le_refl _), h.free (by omega), h.free (by omega), (fun g hg => by cases hg), by omega, by omega, by omega⟩
end
set_option maxHeartbeats 8000000 in
theorem lesson_s (base : Nat) (w : World) (s : Nat) (XB XQ : Nat → Prop) (R nS nW q gp gw gm gl : Nat) (vh vl vp : Value) (S : Sx) (h : Ser base w s XB XQ R nS nW q gp gw gm gl vh vl vp S) (ci : Nat) (hci : ci < S.B.cl.length) (n : Nat) (ok : MeetOk n ⟨S, 0, []⟩ (S.B.cl.getD ci [])) (hsp : S.B.sp.length ≤ 1000000) (h0 : 0 < S.B.sp.length) (T' : Lz) (p' : Nat) (hw : Wk n (Lz.meet ⟨S, 0, []⟩ (S.B.cl.getD ci [])) (S.B.sp.length - 1) T' p') (hoth : T'.oth = []) (x : Int) (hx : ∀ h : p' < S.B.sp.length, -S.B.sp[p'].1 = x) (hxs : Small x) :
    Calls Tryz.prog 57 #[.pointer (some ⟨s, 0, none⟩), .int .i64 ci] w (LeOut base w s XB XQ R nS nW q gp gw gm gl vh vl vp T' x) := by
  have hmf : ∀ (fn : Fn) (first cap : Array Value) (w : World), (Instr.makeFunc fn first cap).run Tryz.prog w = .ok (.func fn first cap) w := fun _ _ _ _ => rfl
  have HS := hide h
  have HOK := hide ok
  have HW := hide hw
  have HX := hide hx
  clear h ok hw hx
  go_enter Tryz.func57, Tryz.ntmps57
  go_wp2_with fail
  have HB2 : Hid (Below w.heap.size w (((w.alloc (.cells #[.pointer (some ⟨s, 0, none⟩)] 55)).alloc (.cells #[.slice none 0 0] 38)).alloc (.cells #[.int .i64 0] 3))) := bal (bal (bal (Below.refl _ _) _) _) _
  have HL2 : Hid (Ls base (((w.alloc (.cells #[.pointer (some ⟨s, 0, none⟩)] 55)).alloc (.cells #[.slice none 0 0] 38)).alloc (.cells #[.int .i64 0] 3)) s XB XQ R nS nW q gp gw gm gl vh vl vp w.heap.size (w.heap.size + 1 + 1) (w.heap.size + 1) (.slice none 0 0) ⟨S, 0, []⟩) := Ls.begin HS.out HB2.out
    (((bal (bal (Below.refl _ (w.alloc (.cells #[.pointer (some ⟨s, 0, none⟩)] 55))) _) _).block w.heap.size (by simp)).trans (MapKept.heap_alloc w _).1)
    (((bal (Below.refl _ ((w.alloc (.cells #[.pointer (some ⟨s, 0, none⟩)] 55)).alloc (.cells #[.slice none 0 0] 38))) _).block (w.heap.size + 1) (by simp)).trans (by have := (MapKept.heap_alloc (w.alloc (.cells #[.pointer (some ⟨s, 0, none⟩)] 55)) (.cells #[.slice none 0 0] 38)).1; rw [World.size_alloc] at this; exact this))
    (by have := (MapKept.heap_alloc ((w.alloc (.cells #[.pointer (some ⟨s, 0, none⟩)] 55)).alloc (.cells #[.slice none 0 0] 38)) (.cells #[.int .i64 0] 3)).1; rw [World.size_alloc, World.size_alloc] at this; exact this)
  generalize ((w.alloc (.cells #[.pointer (some ⟨s, 0, none⟩)] 55)).alloc (.cells #[.slice none 0 0] 38)).alloc (.cells #[.int .i64 0] 3) = w2 at *
  generalize hgo : w.heap.size + 1 + 1 = go at *
  generalize hgt : w.heap.size + 1 = gt at *
  have hbs : base ≤ w.heap.size := by have := HS.out.sx; have := HS.out.ss.1; omega
  have HBB := hide (HB2.out.mono hbs)
  have HF2 := hide HB2.out.block
  have HZ2 := hide HB2.out.size
  have HNE : Hid (∀ g, g < w.heap.size → g ≠ go ∧ g ≠ gt) := fun g hg => ⟨by omega, by omega⟩
  clear hgo hgt
  generalize hgs : w.heap.size = gs at *
  have HGS := hide hgs
  clear hgs
  refine (meet_s base w2 s XB XQ R nS nW q gp gw gm gl vh vl vp gs go gt _ _ HL2.out ci hci n HOK.out).mono ?_
  rintro e w3 ⟨rfl, ⟨vo3, hL3, hv3⟩, hb3, hf3⟩
  have HV3 : Hid (∀ g, vo3.ownBlock = some g → gs ≤ g) := fun g hg => Nat.le_of_not_lt fun hlt => by have := hv3 g (Nat.lt_of_lt_of_le hlt HZ2.out) hg; cases this
  have HF3 : Hid (∀ g, g < gs → Free base s XB XQ gm gl g → w3.heap[g]? = w.heap[g]?) := fun g hg hf => (hf3 g (Nat.lt_of_lt_of_le hg HZ2.out) hf (HNE.out g hg).1 (HNE.out g hg).2 (by simp [Value.ownBlock])).trans (HF2.out g hg)
  clear hv3 hf3 HF2 HZ2
  have HL3 := hide hL3
  have HB3 := hide (HBB.out.trans hb3)
  have hB3 : (Lz.meet ⟨S, 0, []⟩ (S.B.cl.getD ci [])).S.B = S.B := meet_B _ _
  have HE3 := hide hB3
  clear hL3 hb3 HL2 HB2 HBB HOK hbs hci hB3
  generalize Lz.meet ⟨S, 0, []⟩ (S.B.cl.getD ci []) = T1 at *
  obtain ⟨gg, cp, z1, z2, z3, z4⟩ := BdAt.step HL3.out.ser.bd (j := 0) (by rw [HE3.out]; exact h0)
  clear z2 z3 z4
  rw [HE3.out] at z1
  have y0 := HL3.out.d1
  have y1 := HL3.out.ser.s0
  have w1 := wrap_in ((S.B.sp.length : Int) - 1) (by omega) (by omega)
  go_wp2_with fail
  clear z1 y0 y1 w1
  have HP : Hid (((S.B.sp.length : Int) - 1) = ((S.B.sp.length - 1 : Nat) : Int)) := by unfold Hid; omega
  rw [HP.out]
  go_loopw [8] (fun v wr => ∃ (T2 : Lz) (p2 : Nat) (vo2 : Value), v = .int .i64 p2 ∧ Hid (Ls base wr s XB XQ R nS nW q gp gw gm gl vh vl vp gs go gt vo2 T2 ∧ Wk n T2 p2 T' p' ∧ T2.S.B = S.B ∧ Below base w wr ∧ (∀ g, vo2.ownBlock = some g → gs ≤ g) ∧ ∀ g, g < gs → Free base s XB XQ gm gl g → wr.heap[g]? = w.heap[g]?) ∧ p2 ≤ 1000000) (fun v _ => (intOf v).toNat)
  case atStart => exact ⟨T1, S.B.sp.length - 1, vo3, rfl, ⟨HL3.out, HW.out, HE3.out, HB3.out, HV3.out, HF3.out⟩, by omega⟩
  case round =>
    obtain ⟨T2, p2, vo2, rfl, HI, hp2⟩ := hrel
    clear HL3 HW HE3 HB3 HP HV3 HF3
    obtain ⟨hL, hWk, hBe, hbw, hvo2, hfr2⟩ := HI.out
    have y0 := hL.d1
    have y7 := hL.ser.s7
    have y6 := hL.ser.s6
    have y2 := hL.d2
    have e2 : (0 : Int) ≤ (p2 : Int) := by omega
    rcases Wk.inv hWk with ⟨a1, a2, a3, a4, rfl, rfl⟩ | ⟨p2, rfl, a2, a4, a5⟩ | ⟨p2, cj, a1, rfl, a2, a3, a4, a5, a6, a7, a8⟩
    · skip
      obtain ⟨pm, _⟩ := map_cell hL.ser.ma a2
      rw [a4] at pm
      have e3 : (p' : Int) < (T'.S.marks.length : Int) := by omega
      have d0 : decide (1 < T'.op) = false := by simp; omega
      have HXX : Hid (-T'.S.B.sp[p'].1 = x) := by
        have : ∀ (B : Bd) (h1 : B = S.B) (h : p' < B.sp.length), -B.sp[p'].1 = x := fun B h1 h => by subst h1; exact HX.out h
        exact this _ hBe a1
      have e4 : (p' : Int) < (T'.S.B.sp.length : Int) := by omega
      have HA := hide a1
      have HVO := hide hvo2
      have HFX := hide hfr2
      clear hL hbw hBe HX a4 a3 a2 hvo2 hfr2
      go_wp2_with fail
      go_quiet (fail)
      rename_i hK
      refine hK _ _ ?_
      clear hK
      have HL := hide (HI.out.1.later (below_drewN (Below.refl _ wr) nq))
      have HBW : Hid (Below base w (wr.drewN nq)) := below_drewN HI.out.2.2.2.1 nq
      replace HFX : Hid (∀ g, g < gs → Free base s XB XQ gm gl g → (wr.drewN nq).heap[g]? = w.heap[g]?) := HFX
      clear y0 y7 y6 y2 pm d0 HI
      generalize wr.drewN nq = w4 at *
      obtain ⟨gg, cp, z1, z2, _, xg, xR⟩ := BdAt.stepX HL.out.ser.bd a1
      generalize T'.S.B.sp[p'].1 = num at *
      have y0 := HL.out.d1
      have y3 := HL.out.ser.s0
      obtain ⟨po, co, hpo⟩ := HL.out.sl
      rw [hoth] at hpo
      have y5 := HL.out.d3
      have y8 := HL.out.z3
      have n1 := HL.out.n13
      have n2 : s ≠ gt := HL.out.f3.s.symm
      have n3 : R ≠ gt := fun e => HL.out.f3.b (e ▸ xR)
      have n4 : gg ≠ gt := fun e => HL.out.f3.b (e ▸ xg)
      have hx1 := hxs.1
      have hx2 := hxs.2
      have ww : IntKind.i64.wrap (-num) = -num := (IntWalk.i64_left _).trans <| wrap_in (-num) (by have := HXX.out; omega) (by have := HXX.out; omega)
      subst hpo
      simp only [List.length_nil] at y5
      go_wp2_with fail
      go_region_held3 (fun w' => w'.cell? ⟨gt, 0, none⟩ = some (.slice po 0 co) ∧ w'.cell? ⟨gs, 0, none⟩ = some (.pointer (some ⟨s, 0, none⟩)) ∧ w'.cell? ⟨s, 0, none⟩ = some (.pointer (some ⟨R, 0, none⟩)) ∧ w'.cell? ⟨R, 1, none⟩ = some (.slice (some ⟨gg, 0, none⟩) T'.S.B.sp.length cp) ∧ w'.cell? ⟨gg, p' * 3, none⟩ = some (.int .i64 num)) (first | exact ⟨y5, y0, y3, z1, z2⟩ | exact ⟨World.cell?_setCell_same' _ _ _ (by rw [y5]; rfl), cell_set_far y0 n1, cell_set_far y3 n2, cell_set_far z1 n3, cell_set_far z2 n4⟩) ((go_at_call 83; refine (deleteFunc_none _ _ _ _).mono ?_; rintro e wD ⟨rfl, rfl⟩))
      have HSE : Hid (Ser base (w4.setCell ⟨gt, 0, none⟩ (.slice po 0 co)).drew s XB XQ R nS nW q gp gw gm gl vh vl vp T'.S) := (HL.out.ser.keep (by simp) fun g hg => heap_setCell_other _ _ _ _ (show g ≠ gt from fun e => HL.out.f3.no (e ▸ hg))).later (Below.refl _ _).drew
      have HRW : Hid ((w4.setCell ⟨gt, 0, none⟩ (.slice po 0 co)).drew.ownsRow 0 3 1 (.slice po 0 co) T'.oth.length (T'.oth.map (Value.int .i64))) := row_same HL.out.row fun g hg => heap_setCell_other _ _ _ _ (show g ≠ gt from (HL.out.fo g hg).2.2.2)
      have HBZ : Hid (Below base w (w4.setCell ⟨gt, 0, none⟩ (.slice po 0 co)).drew) := (HBW.out.setCell (p := ⟨gt, 0, none⟩) HL.out.f3.base _).drew
      have y9 : (w4.setCell ⟨gt, 0, none⟩ (.slice po 0 co)).drew.cell? ⟨gt, 0, none⟩ = some (.slice po 0 co) := World.cell?_setCell_same' _ _ _ (by rw [y5]; rfl)
      have HFO := hide HL.out.fo
      have HFZ : Hid (∀ g, g < gs → Free base s XB XQ gm gl g → (w4.setCell ⟨gt, 0, none⟩ (.slice po 0 co)).drew.heap[g]? = w.heap[g]?) := fun g hg hf => (heap_setCell_other _ _ _ _ (show g ≠ gt from (HNE.out g hg).2)).trans (HFX.out g hg hf)
      clear y0 y3 y5 y8 z1 z2 HL HBW
      generalize (w4.setCell ⟨gt, 0, none⟩ (.slice po 0 co)).drew = w5 at *
      rw [HXX.out]
      go_wp2
      try simp only [Exit.inBlock, Exit.then]
      refine bodyPost_ret ((results_cell_tmp rfl _ _ _).trans (?_ : _ = Result.ok (.tuple #[.slice po 0 co, .int .i64 x]) w5)) rfl ?_
      · go_simp
      exact ⟨⟨_, rfl, HRW.out, fun g hg => ⟨(HFO.out g hg).1, by rw [HGS.out]; exact HVO.out g hg⟩⟩, HSE.out, HBZ.out, fun g hg hf => HFZ.out g (by rw [← HGS.out]; exact hg) hf⟩
    · skip
      obtain ⟨pm, _⟩ := map_cell hL.ser.ma a2
      have e3 : ((p2 + 1 : Nat) : Int) < (T2.S.marks.length : Int) := by omega
      generalize T2.S.marks.getD (p2 + 1) 0 = mk at *
      have d1 : (mk != T2.S.lessons) = true := by simpa using a4
      have d2 : (mk == T2.S.lessons) = false := by simpa using a4
      have HN := hide (And.intro hL (And.intro a5 (And.intro hBe (And.intro hbw (And.intro hvo2 hfr2)))))
      have w1 := wrap_in (((p2 + 1 : Nat) : Int) - 1) (by omega) (by omega)
      have w3 : ((p2 + 1 : Nat) : Int) - 1 = (p2 : Int) := by omega
      clear hL hbw hBe a4 a5 HI hvo2 hfr2
      by_cases ho : 1 < T2.op
      · have d0 : decide (1 < T2.op) = true := decide_eq_true ho
        go_wp2_with fail
        go_quiet (fail)
        rename_i hK
        refine hK _ _ ?_
        clear hK
        go_wp2_with fail
        go_quiet (fail)
        rename_i hK
        refine hK _ _ ?_
        clear hK
        go_wp2
        go_roundw
        case rel => exact ⟨T2, p2, vo2, rfl, ⟨HN.out.1.later (below_drewN (Below.refl _ wr) _), HN.out.2.1, HN.out.2.2.1, below_drewN HN.out.2.2.2.1 _, HN.out.2.2.2.2.1, HN.out.2.2.2.2.2⟩, by omega⟩
        case measure => simp [intOf]
      · have d0 : decide (1 < T2.op) = false := decide_eq_false ho
        go_wp2_with fail
        go_quiet (fail)
        rename_i hK
        refine hK _ _ ?_
        clear hK
        go_wp2_with fail
        go_quiet (fail)
        rename_i hK
        refine hK _ _ ?_
        clear hK
        go_wp2
        go_roundw
        case rel => exact ⟨T2, p2, vo2, rfl, ⟨HN.out.1.later (below_drewN (Below.refl _ wr) _), HN.out.2.1, HN.out.2.2.1, below_drewN HN.out.2.2.2.1 _, HN.out.2.2.2.2.1, HN.out.2.2.2.2.2⟩, by omega⟩
        case measure => simp [intOf]
    · skip
      obtain ⟨pm, _⟩ := map_cell hL.ser.ma a2
      rw [a4] at pm
      have e3 : ((p2 + 1 : Nat) : Int) < (T2.S.marks.length : Int) := by omega
      have e4 : ((p2 + 1 : Nat) : Int) < (T2.S.B.sp.length : Int) := by omega
      have d0 : decide (1 < T2.op) = true := decide_eq_true a3
      have w1 := wrap_in (((p2 + 1 : Nat) : Int) - 1) (by omega) (by omega)
      have w3 : ((p2 + 1 : Nat) : Int) - 1 = (p2 : Int) := by omega
      have HA1 := hide a1
      have HOK2 := hide a7
      have HN2 := hide a8
      have HVO := hide hvo2
      have HFX := hide hfr2
      clear hL hbw a7 a8 hBe hvo2 hfr2
      go_wp2_with fail
      go_quiet (fail)
      rename_i hK
      refine hK _ _ ?_
      clear hK
      have HL := hide (HI.out.1.later (below_drewN (Below.refl _ wr) nq))
      have HBW : Hid (Below base w (wr.drewN nq)) := below_drewN HI.out.2.2.2.1 nq
      replace HFX : Hid (∀ g, g < gs → Free base s XB XQ gm gl g → (wr.drewN nq).heap[g]? = w.heap[g]?) := HFX
      have HBE := hide HI.out.2.2.1
      clear y0 y7 y6 y2 pm d0 HI
      generalize wr.drewN nq = w4 at *
      have y0 := HL.out.d1
      have y7 := HL.out.ser.s7
      have y6 := HL.out.ser.s6
      obtain ⟨pm, _⟩ := map_cell HL.out.ser.ma a2
      rw [a4] at pm
      go_wp2_with fail
      go_quiet (fail)
      rename_i hK
      refine hK _ _ ?_
      clear hK
      have HL2 := hide (HL.out.later (below_drewN (Below.refl _ w4) nq))
      have HBW2 : Hid (Below base w (w4.drewN nq)) := below_drewN HBW.out nq
      replace HFX : Hid (∀ g, g < gs → Free base s XB XQ gm gl g → (w4.drewN nq).heap[g]? = w.heap[g]?) := HFX
      clear y0 y7 y6 pm HL HBW
      generalize w4.drewN nq = w5 at *
      obtain ⟨gg, cp, z1, z2, z3, _, _⟩ := BdAt.stepX HL2.out.ser.bd a1
      rw [a5] at z3
      have y0 := HL2.out.d1
      have y3 := HL2.out.ser.s0
      have HMT := hide (meet_s base w5 s XB XQ R nS nW q gp gw gm gl vh vl vp gs go gt _ _ HL2.out cj a6 n HOK2.out)
      clear z2
      go_wp2_with fail
      refine HMT.out.mono ?_
      rintro e w6 ⟨rfl, ⟨vo6, hL6, hv6⟩, hb6, hf6⟩
      have hz5 : gs ≤ w5.heap.size := by have := HBW2.out.size; have := HGS.out; omega
      have HV6 : Hid (∀ g, vo6.ownBlock = some g → gs ≤ g) := fun g hg => Nat.le_of_not_lt fun hlt => by have := HVO.out g (hv6 g (by omega) hg); omega
      have HF6 : Hid (∀ g, g < gs → Free base s XB XQ gm gl g → w6.heap[g]? = w.heap[g]?) := fun g hg hf => (hf6 g (by omega) hf (HNE.out g hg).1 (HNE.out g hg).2 (fun e => by have := HVO.out g e; omega)).trans (HFX.out g hg hf)
      clear hv6 hf6 hz5 HFX HVO
      have HL6 := hide hL6
      have HB6 := hide (HBW2.out.trans hb6)
      have y2 := hL6.d2
      have y4 := hL6.z2
      have HBM := hide ((meet_B (T2.S.B.cl.getD cj []) T2).trans HBE.out)
      have hop : 0 ≤ (T2.meet (T2.S.B.cl.getD cj [])).op ∧ (T2.meet (T2.S.B.cl.getD cj [])).op ≤ 2000000 := by
        have h1 := meet_op (T2.S.B.cl.getD cj []) T2
        have h2 := HOK2.out.op
        have h3 := HOK2.out.len
        omega
      generalize T2.meet (T2.S.B.cl.getD cj []) = T6 at *
      have ww := wrap_in (T6.op - 1) (by omega) (by omega)
      clear hL6 hb6 HMT y0 y3 z1 z3 HL2 HBW2
      go_wp2
      go_roundw
      case rel => exact ⟨_, p2, vo6, rfl, ⟨HL6.out.setO (T6.op - 1), HN2.out, HBM.out, HB6.out.setCell (p := ⟨go, 0, none⟩) HL6.out.f2.base _, HV6.out, fun g hg hf => (heap_setCell_other _ _ _ _ (show g ≠ go from (HNE.out g hg).1)).trans (HF6.out g hg hf)⟩, by omega⟩
      case measure => simp [intOf]
end Go.Proofs.YtkinmangilbeeaaGreatDoor.Sr
