/- A searcher learns one number: the walk. -/
import Derived.Test.YtkinmangilbeeaaGreatDoorLq
namespace Go.Proofs.YtkinmangilbeeaaGreatDoor.Sr
open Go.RowKit Go.Maps Go.Proofs.YtkinmangilbeeaaGreatDoor.Pf
set_option maxRecDepth 100000

theorem info38 : (Tryz.prog.info? 38).map (fun i => (i.zero, i.size, i.bytes)) = some (some (.slice none 0 0), 1, 24) := by kernel_rfl
/-- One more list is laid behind those of an own row. -/
theorem own_append22 {w : World} {vp : Value} {n : Nat} {xs : List Value} (h : w.ownsRow 0 38 1 vp n xs) (p : Option Addr) (k c : Nat) (hl : n < 1000000) (ty : TypeId) :
    ∃ vp' w', (Builtin.append_ #[22, 22] ty #[vp, .slice (some ⟨w.heap.size, 0, none⟩) 1 1]).run Tryz.prog (w.alloc (.cells #[.slice p k c] 38)) = .ok vp' w' ∧ w'.ownsRow 0 38 1 vp' (n + 1) (xs ++ [.slice p k c]) ∧ (∀ g, g < w.heap.size → vp.ownBlock ≠ some g → w'.heap[g]? = w.heap[g]?) ∧ w.heap.size ≤ w'.heap.size ∧ w'.os = w.os ∧ w'.tape = w.tape ∧ w'.output = w.output ∧ ∃ p' k' c', vp' = .slice p' k' c' := by
  obtain ⟨i0, hi, hz0, hz1, hz2⟩ := info_parts info38
  have hal : Below w.heap.size w (w.alloc (.cells #[.slice p k c] 38)) := bal (Below.refl _ _) _
  obtain ⟨vp', w', hr, ho, hg, _⟩ := run_append_own (P := Tryz.prog) (w := w.alloc (.cells #[.slice p k c] 38)) 0 22 ty 38 i0 (.slice none 0 0) 1 24 Tryz.underlying22 hi hz0 hz1 hz2 rfl (by decide) vp n _ (h.alloc (.cells #[.slice p k c] 38)) ⟨w.heap.size, 0, none⟩ 1 1 [.slice p k c] rfl (one_newI _ w 38) (fun u hu => by simp at hu; subst hu; rfl) (by unfold maxLen; omega) (by omega) (Nat.zero_le _)
  have hsz := hg.size
  rw [World.size_alloc] at hsz
  refine ⟨vp', w', hr, ho, fun g hk hne => (hg.block g (by rw [World.size_alloc]; omega) (fun e => hne e.symm)).trans (hal.block g hk), by omega, hg.os, hg.tape, hg.output, ?_⟩
  rcases ho.2 with ⟨e, _⟩ | ⟨g, cap, cur, e, _⟩
  · exact ⟨_, _, _, e⟩
  · exact ⟨_, _, _, e⟩
theorem row_ints {w : World} {vo : Value} {l : List Int} (h : w.ownsRow 0 3 1 vo l.length (l.map (Value.int .i64))) {p : Option Addr} {n c : Nat} (e : vo = .slice p n c) : IntsAt w p l := fun h0 => by
  rcases h.2 with ⟨_, h1⟩ | ⟨g, cap, cur, e2, _⟩
  · omega
  · obtain ⟨rfl, -, -⟩ : p = some ⟨g, 0, none⟩ ∧ n = l.length ∧ c = cap := by rw [e] at e2; simpa using e2
    refine ⟨g, 0, rfl, fun j hj => ?_⟩
    have := h.cells (g := g) (by rw [e2]; rfl) j (.int .i64 l[j]) (by rw [List.getElem?_map, List.getElem?_eq_getElem hj]; rfl)
    rw [Addr.add_lit] at this
    exact this
/-- What learn leaves. -/
def LnOut (base : Nat) (w : World) (s : Nat) (XB0 XQ0 : Nat → Prop) (R nS nW q gp gw gm gl : Nat) (vl : Value) (V : Int) (L : List (List Int)) (S' : Sx) (e : Ending) (w' : World) : Prop :=
  e = .returned (.tuple #[]) ∧ (∃ XB XQ nS' nW' vh vp, Ser base w' s XB XQ R nS' nW' q gp gw gm gl vh vl vp S' ∧ nS' ≤ nS + 1 ∧ nW' ≤ nW + 2 ∧ ∀ g, g < w.heap.size → Free base s XB0 XQ0 gm gl g → w'.heap[g]? = w.heap[g]? ∧ Free base s XB XQ gm gl g) ∧ Below base w w' ∧ Inv V L (fun _ => False) S'.B
/-- A searcher may learn one number. -/
structure LearnOk (V : Int) (n : Nat) (L : List (List Int)) (S : Sx) (ci : Nat) (x : Int) (S1 : Sx) (T' : Lz) (p' : Nat) (S2 : Sx) (k : Nat) (S3 : Sx) : Prop where
  hS1 : { S with lessons := S.lessons + 1 } = S1
  hles : 0 ≤ S.lessons ∧ S.lessons ≤ 1000000
  hleft : 1 < S.left ∧ S.left ≤ 1000000
  hci : ci < S1.B.cl.length
  ok : MeetOk n ⟨S1, 0, []⟩ (S1.B.cl.getD ci [])
  hsp : S1.B.sp.length ≤ 1000000
  h0 : 0 < S1.B.sp.length
  hw : Wk n (Lz.meet ⟨S1, 0, []⟩ (S1.B.cl.getD ci [])) (S1.B.sp.length - 1) T' p'
  hoth : T'.oth = []
  hx : ∀ h : p' < S1.B.sp.length, -S1.B.sp[p'].1 = x
  hxs : Small x
  hg0 : 0 ≤ T'.S.Q.gain
  hg1 : T'.S.Q.gain + T'.S.Q.gain / 16 < 1099511627776
  hS2 : { T'.S with Q := T'.S.Q.fade } = S2
  qok : QOk n S2.Q
  hn : n ≤ 200000
  hln : S2.lean.length = n
  hq : S2.Q.hp.length + S2.B.sp.length < 1000000
  hxn : ∀ x ∈ S2.B.st, x.natAbs < n
  hk : k ≤ S2.B.sp.length
  hb0 : ∀ s ∈ S2.B.sp.take k, s.2.1 ≤ 0
  hb1 : ∀ s ∈ S2.B.sp.drop k, 0 < s.2.1
  hsn : S2.B.st.Nodup
  hspr : S2.B.spread ≤ S2.B.sp.length
  hS3 : S2.back k 0 = S3
  hI : Inv V L (fun _ => False) S3.B
  hlv : S3.B.level = 0
  hV : V ≤ 200000
  hcl : S3.B.cl.length ≤ 800000
  hxV : Num V x
  hl3 : S3.left = S.left
set_option maxHeartbeats 8000000 in
theorem learn_1 (base : Nat) (w : World) (s : Nat) (XB XQ : Nat → Prop) (R nS nW q gp gw gm gl : Nat) (vh vl : Value) (S : Sx) (h : Ser base w s XB XQ R nS nW q gp gw gm gl vh vl (.slice none 0 0) S) (V : Int) (n : Nat) (L : List (List Int)) (ci : Nat) (x : Int) (S1 : Sx) (T' : Lz) (p' : Nat) (S2 : Sx) (k : Nat) (S3 : Sx) (O : LearnOk V n L S ci x S1 T' p' S2 k S3) (hnS : nS ≤ 10000000000000) (hnW : nW ≤ 800000000000000000) :
    Calls Tryz.prog 48 #[.pointer (some ⟨s, 0, none⟩), .int .i64 ci] w (LnOut base w s XB XQ R nS nW q gp gw gm gl vl V (L ++ [[x]]) { S3 with B := S3.B.add (layD S3.B.st [x]), left := S.left - 1 }) := by
  obtain ⟨hS1, hles, hleft, hci, ok, hsp, h0, hw, hoth, hx, hxs, hg0, hg1, hS2, qok, hn, hln, hq, hxn, hk, hb0, hb1, hsn, hspr, hS3, hI, hlv, hV, hcl, hxV, hl3⟩ := O
  have s6 := h.s6
  have f6 := h.fz 6
  have w1 := wrap_in (S.lessons + 1) (by omega) (by omega)
  have HS1 : Hid (Ser base (w.setCell ⟨s, 6, none⟩ (.int .i64 (S.lessons + 1))) s XB XQ R nS nW q gp gw gm gl vh vl (.slice none 0 0) S1) := by rw [← hS1]; exact h.setLessons _
  have HB1 : Hid (Below base w (w.setCell ⟨s, 6, none⟩ (.int .i64 (S.lessons + 1)))) := (Below.refl base w).setCell (p := ⟨s, 6, none⟩) h.sx _
  have HK1 : Hid (∀ g, g < w.heap.size → Free base s XB XQ gm gl g → (w.setCell ⟨s, 6, none⟩ (.int .i64 (S.lessons + 1))).heap[g]? = w.heap[g]?) := fun g _ hf => heap_setCell_other _ _ _ _ (show g ≠ s from hf.s)
  have HZ1 : Hid ((w.setCell ⟨s, 6, none⟩ (.int .i64 (S.lessons + 1))).heap.size = w.heap.size) := by unfold Hid; simp
  have HLE := hide (lesson_s base _ s XB XQ R nS nW q gp gw gm gl vh vl (.slice none 0 0) S1 HS1.out ci hci n ok hsp h0 T' p' hw hoth x hx hxs)
  have HFD := hide (And.intro hg0 hg1)
  have HS2 := hide hS2
  have HQ2 := hide qok
  have HBK := hide (And.intro hxn (And.intro hb0 (And.intro hb1 hsn)))
  have HS3 := hide hS3
  have HI3 := hide hI
  clear h hS1 ok hw hx hg0 hg1 hS2 qok hxn hb0 hb1 hsn hS3 hI HS1
  go_enter Tryz.func48, Tryz.ntmps48
  go_wp2_with fail
  refine HLE.out.mono ?_
  rintro e w2 ⟨⟨vo, rfl, hrow, hfr⟩, hser, hbw, hkp⟩
  have HK2 : Hid (∀ g, g < w.heap.size → Free base s XB XQ gm gl g → w2.heap[g]? = w.heap[g]?) := fun g hg hf => (hkp g (by rw [HZ1.out]; exact hg) hf).trans (HK1.out g hg hf)
  have HSE := hide hser
  have HROW := hide hrow
  have HFR := hide hfr
  have HB2 := hide (HB1.out.trans hbw)
  have s1 := hser.s1
  have HFA := hide (fade_any w2 XQ q gp gw vh _ hser.qu HFD.out.1 HFD.out.2)
  clear hrow hfr hser hbw hkp HLE s6 f6 w1 HB1 HK1
  go_wp2_with fail
  refine HFA.out.mono ?_
  rintro e w3 ⟨rfl, hqm, hF3⟩
  have HSE3 : Hid (Ser base w3 s XB XQ R nS nW q gp gw gm gl vh vl (.slice none 0 0) S2) := by have := HSE.out.queue hqm hF3; rw [← HS2.out]; exact this
  have HB3 : Hid (Below base w w3) := HB2.out.trans (HSE.out.qw hF3)
  have HROW3 : Hid (w3.ownsRow 0 3 1 vo 0 []) := by
    have := row_same HROW.out (w1 := w3) fun g hg => hF3.far g (HROW.out.lt g hg).2 (HFR.out g hg).1.q
    rw [hoth] at this
    exact this
  have HK3 : Hid (∀ g, g < w.heap.size → Free base s XB XQ gm gl g → w3.heap[g]? = w.heap[g]?) := fun g hg hf => (hF3.far g (by have := HB2.out.size; omega) hf.q).trans (HK2.out g hg hf)
  clear hqm hF3 HFA HSE HB2 HROW s1 HK2
  obtain ⟨po, co, hvo⟩ : ∃ po co, vo = .slice po 0 co := by
    rcases HROW3.out.2 with ⟨e, _⟩ | ⟨g, cap, cur, e, _⟩
    · exact ⟨_, _, e⟩
    · exact ⟨_, _, e⟩
  obtain ⟨vo1, w4, hr1, ⟨p1, c1, hv1⟩, ho1, hnew1, hold1, hsz1, o1, t1, u1⟩ := own_append (l := []) HROW3.out x (by simp) 38
  have hlt3 : ∀ g, (XB g ∨ XQ g ∨ g = gm ∨ g = gl ∨ g = s) → g < w3.heap.size := by
    obtain ⟨ls, lm, ll⟩ := HSE3.out.ss
    rintro g (e | e | rfl | rfl | rfl)
    · exact BdAt.xb HSE3.out.bd g e
    · exact HSE3.out.qu.xb g e
    · exact lm
    · exact ll
    · exact ls
  have HSE4 : Hid (Ser base w4 s XB XQ R nS nW q gp gw gm gl vh vl (.slice none 0 0) S2) := HSE3.out.keep hsz1 fun g hg => hold1 g (hlt3 g hg) fun e => (HFR.out g e).1.no hg
  have HFR1 : Hid (∀ g, vo1.ownBlock = some g → Free base s XB XQ gm gl g) := fun g hg => by
    rcases hnew1 g hg with e | e
    · exact (HFR.out g e).1
    · exact HSE3.out.free (by omega)
  have hbs3 : base ≤ w3.heap.size := by have := HSE3.out.sx; have := HSE3.out.ss.1; omega
  have HB4 : Hid (Below base w w4) := HB3.out.trans ⟨o1, t1, u1, hsz1, fun g hg => hold1 g (by omega) fun e => by have := (HFR.out g e).1.base; omega⟩
  have HK4 : Hid (∀ g, g < w.heap.size → Free base s XB XQ gm gl g → w4.heap[g]? = w.heap[g]?) := fun g hg hf => (hold1 g (by have := HB3.out.size; omega) fun e => by have h1 := (HFR.out g e).2; rw [HZ1.out] at h1; omega).trans (HK3.out g hg hf)
  subst hv1
  obtain ⟨vp1, w5, hr2, ho2, hold2, hsz2, o2, t2, u2, ⟨p2, k2, c2, hv2⟩⟩ := own_append22 (row_nil w4 0 38 1) p1 1 c1 (by decide) 22
  have hold5 : ∀ g, g < w4.heap.size → w5.heap[g]? = w4.heap[g]? := fun g hg => hold2 g hg fun e => by cases e
  have hb5 : Below w4.heap.size w4 w5 := ⟨o2, t2, u2, hsz2, hold5⟩
  have HSE5 := hide (HSE4.out.later hb5)
  have HRL5 : Hid (w5.ownsRow 0 3 1 (.slice p1 1 c1) 1 [.int .i64 x]) := row_same ho1 fun g hg => hold5 g (ho1.lt g hg).2
  have hbs4 : base ≤ w4.heap.size := by omega
  have HB5 : Hid (Below base w w5) := HB4.out.trans (hb5.mono hbs4)
  have HK6 : Hid (∀ g, g < w.heap.size → Free base s XB XQ gm gl g → (w5.setCell ⟨s, 5, none⟩ vp1).heap[g]? = w.heap[g]?) := fun g hg hf => (heap_setCell_other _ _ _ _ (show g ≠ s from hf.s)).trans ((hold5 g (by have := HB4.out.size; omega)).trans (HK4.out g hg hf))
  subst hv2
  have HSE6 := hide (HSE5.out.setProof (.slice p2 k2 c2))
  have HRL6 : Hid ((w5.setCell ⟨s, 5, none⟩ (.slice p2 k2 c2)).ownsRow 0 3 1 (.slice p1 1 c1) 1 [.int .i64 x]) := row_same HRL5.out fun g hg => heap_setCell_other _ _ _ _ (show g ≠ s from (HFR1.out g hg).s)
  have HB6 : Hid (Below base w (w5.setCell ⟨s, 5, none⟩ (.slice p2 k2 c2))) := HB5.out.setCell (p := ⟨s, 5, none⟩) HSE5.out.sx _
  have s54 := HSE4.out.s5
  have s55 := HSE5.out.s5
  have f55 := HSE5.out.fz 5
  subst hvo
  clear ho1 hnew1 hold1 hsz1 o1 t1 u1 ho2 hold2 hsz2 o2 t2 u2 hold5 hb5 HSE4 HSE5 HRL5 HB4 HB5 HB3 HSE3 HROW3 hlt3 HFR hbs3 hbs4 HK3 HK4 HZ1
  go_wp2_with (first | (at_builtin; refine Lib.wpList_append_run _ rfl _ _ _ _ rfl _ _ rfl rfl _ _ hr1 ?_) | (at_builtin; refine Lib.wpList_append_run _ rfl _ _ _ _ rfl _ _ rfl rfl _ _ hr2 ?_))
  clear hr1 hr2 s54 s55 f55
  generalize w5.setCell ⟨s, 5, none⟩ (.slice p2 k2 c2) = w6 at *
  refine (levelOf_s base w6 s XB XQ R nS nW q gp gw gm gl vh vl _ S2 HSE6.out po co [] (fun h => by simp at h) (by simp) (fun x hx => by simp at hx)).mono ?_
  rintro e w7 ⟨rfl, hb7⟩
  have HSE7 := hide (HSE6.out.later hb7)
  have HRL7 : Hid (w7.ownsRow 0 3 1 (.slice p1 1 c1) 1 [.int .i64 x]) := row_same HRL6.out fun g hg => hb7.block g (HRL6.out.lt g hg).2
  have HB7 : Hid (Below base w w7) := HB6.out.trans (hb7.mono (by have := HSE6.out.sx; have := HSE6.out.ss.1; omega))
  have HK7 : Hid (∀ g, g < w.heap.size → Free base s XB XQ gm gl g → w7.heap[g]? = w.heap[g]?) := fun g hg hf => (hb7.block g (by have := HB6.out.size; omega)).trans (HK6.out g hg hf)
  clear hb7 HSE6 HRL6 HB6 HK6
  have HBS := hide (back_s base w7 s XB XQ R nS nW q gp gw gm gl vh vl _ S2 HSE7.out n HQ2.out hn hln hq HBK.out.1 k hk 0 HBK.out.2.1 HBK.out.2.2.1 HBK.out.2.2.2 hspr)
  have HL0 : Hid (lvMax S2.B [] = 0) := rfl
  rw [HL0.out]
  go_wp2_with fail
  refine HBS.out.mono ?_
  rintro e w8 ⟨rfl, ⟨XQ8, vh8, hs8, hq8⟩, hb8, hf8⟩
  rw [HS3.out] at hs8
  have HSE8 := hide hs8
  have HB8 := hide (HB7.out.trans hb8)
  have HRL8 : Hid (w8.ownsRow 0 3 1 (.slice p1 1 c1) 1 [.int .i64 x]) := row_same HRL7.out fun g hg => hf8 g (HRL7.out.lt g hg).2 (HFR1.out g hg).b (HFR1.out g hg).q (HFR1.out g hg).l
  have s0 := hs8.s0
  have HAD := hide (addB_any w8 XB R nS nW S3.B hs8.bd V L HI3.out hlv hV hcl hnS hnW p1 c1 [x] (by simp) (fun y hy => by simp at hy; subst hy; exact hxV) (row_ints (l := [x]) HRL8.out rfl))
  have HK8 : Hid (∀ g, g < w.heap.size → Free base s XB XQ gm gl g → w8.heap[g]? = w.heap[g]? ∧ ¬ XQ8 g) := fun g hg hf => ⟨(hf8 g (by have := HB7.out.size; omega) hf.b hf.q hf.l).trans (HK7.out g hg hf), fun e => hf.q (hq8 g (by have := HB7.out.size; omega) e)⟩
  clear hs8 hq8 hb8 hf8 HBS HSE7 HRL7 HB7 HK7
  go_wp2_with fail
  refine HAD.out.mono ?_
  rintro e w9 ⟨rfl, B', X', nS', nW', hbd, hF, hInv, ⟨hl9, rfl⟩, _, hm1, hm2⟩
  have HSE9 := hide (HSE8.out.board hbd hF)
  have HB9 := hide (HB8.out.trans (HSE8.out.bw hF))
  have HIN := hide hInv
  have HK9 : Hid (∀ g, g < w.heap.size → Free base s XB XQ gm gl g → (w9.setCell ⟨s, 10, none⟩ (.int .i64 (S.left - 1))).heap[g]? = w.heap[g]? ∧ Free base s X' XQ8 gm gl g) := fun g hg hf => by
    have h1 := HB8.out.size
    have h2 := HK8.out g hg hf
    exact ⟨(heap_setCell_other _ _ _ _ (show g ≠ s from hf.s)).trans ((hF.far g (by omega) hf.b).trans h2.1), fun e => hf.b (hF.fro g (by omega) e), h2.2, hf.m, hf.l, hf.s, hf.base⟩
  have sA : w9.cell? ⟨s, 10, none⟩ = some (.int .i64 S.left) := by rw [Lib.cell_of_heap HSE9.out.bk, ← hl3]; rfl
  have fA := HSE9.out.fz 10
  have ww := wrap_in (S.left - 1) (by omega) (by omega)
  have hne : (S.left - 1 == 0) = false := by simp; omega
  clear hbd hF hInv HSE8 HB8 HAD s0 HK8
  go_wp2
  go_end0
  exact ⟨rfl, ⟨X', XQ8, nS', nW', vh8, _, HSE9.out.setLeft (S.left - 1), hm1, hm2, HK9.out⟩, HB9.out.setCell (p := ⟨s, 10, none⟩) HSE9.out.sx _, HIN.out⟩
end Go.Proofs.YtkinmangilbeeaaGreatDoor.Sr
