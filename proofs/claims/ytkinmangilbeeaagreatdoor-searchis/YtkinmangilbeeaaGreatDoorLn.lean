/- While a lesson is made: what lies in memory. -/
import Derived.Test.YtkinmangilbeeaaGreatDoorLm
namespace Go.Proofs.YtkinmangilbeeaaGreatDoor.Sr
open Go.RowKit Go.Maps Go.Proofs.YtkinmangilbeeaaGreatDoor.Pf
set_option maxRecDepth 100000

/-- One more number is laid behind those of an own row. -/
theorem own_append {w : World} {vo : Value} {l : List Int} (h : w.ownsRow 0 3 1 vo l.length (l.map (Value.int .i64))) (v : Int) (hl : l.length < 1000000) (ty : TypeId) :
    ∃ vo' w', (Builtin.append_ #[38, 38] ty #[vo, .slice (some ⟨w.heap.size, 0, none⟩) 1 1]).run Tryz.prog (w.alloc (.cells #[.int .i64 v] 3)) = .ok vo' w' ∧ (∃ p c, vo' = .slice p (l.length + 1) c) ∧ w'.ownsRow 0 3 1 vo' (l ++ [v]).length ((l ++ [v]).map (Value.int .i64)) ∧ (∀ k, vo'.ownBlock = some k → vo.ownBlock = some k ∨ w.heap.size < k) ∧ (∀ k, k < w.heap.size → vo.ownBlock ≠ some k → w'.heap[k]? = w.heap[k]?) ∧ w.heap.size ≤ w'.heap.size ∧ w'.os = w.os ∧ w'.tape = w.tape ∧ w'.output = w.output := by
  obtain ⟨i0, hi, hz0, hz1, hz2⟩ := info_parts info3
  have hal : Below w.heap.size w (w.alloc (.cells #[.int .i64 v] 3)) := bal (Below.refl _ _) _
  have hown := h.alloc (.cells #[.int .i64 v] 3)
  obtain ⟨vh', w', hr, ho, hg, _⟩ := run_append_own (P := Tryz.prog) (w := w.alloc (.cells #[.int .i64 v] 3)) 0 38 ty 3 i0 (.int .i64 0) 1 8 Tryz.underlying38 hi hz0 hz1 hz2 rfl (by decide) vo l.length _ hown ⟨w.heap.size, 0, none⟩ 1 1 [.int .i64 v] rfl (one_newI _ w 3) (fun u hu => by simp at hu; subst hu; rfl) (by unfold maxLen; omega) (by omega) (Nat.zero_le _)
  have hsz := hg.size
  rw [World.size_alloc] at hsz
  have hold : ∀ k, k < w.heap.size → vo.ownBlock ≠ some k → w'.heap[k]? = w.heap[k]? := fun k hk hne => (hg.block k (by rw [World.size_alloc]; omega) (fun e => hne e.symm)).trans (hal.block k hk)
  have hnew : ∀ k, vh'.ownBlock = some k → vo.ownBlock = some k ∨ w.heap.size < k := by
    intro k hk
    rcases hown.2 with ⟨rfl, h0⟩ | ⟨g, cap, cur, rfl, _, hg', hn, hm, hs, ht⟩
    · have h2 := run_append_nil (P := Tryz.prog) (w.alloc (.cells #[.int .i64 v] 3)) 38 ty 3 i0 (.int .i64 0) Tryz.underlying38 hi hz0 ⟨w.heap.size, 0, none⟩ 1 1 [.int .i64 v] (by rw [hz1]; rfl) (one_newI _ w 3) (by decide) (by decide) (by rw [hz2]; decide)
      rw [hr] at h2
      injection h2 with h2
      subst h2
      simp [Value.ownBlock] at hk
      exact .inr (by omega)
    · by_cases hroom : l.length + 1 ≤ cap
      · have h2 := run_append_room (P := Tryz.prog) (w.alloc (.cells #[.int .i64 v] 3)) 38 ty 3 i0 Tryz.underlying38 hi g l.length cap cur hg' ⟨w.heap.size, 0, none⟩ 1 1 [.int .i64 v] (by rw [hz1]; rfl) (one_newI _ w 3) (fun u hu => by simp at hu; subst hu; rfl) hroom (by rw [hz1, hs]; simp; omega)
        rw [hr] at h2
        injection h2 with h2
        subst h2
        exact .inl hk
      · have h2 := run_append_grow (P := Tryz.prog) (w.alloc (.cells #[.int .i64 v] 3)) 38 ty 3 i0 (.int .i64 0) Tryz.underlying38 hi hz0 ⟨g, 0, none⟩ l.length cap (l.map (Value.int .i64)) (by rw [hz1]; simp) (hown.cells (g := g) rfl) ⟨w.heap.size, 0, none⟩ 1 1 [.int .i64 v] (by rw [hz1]; rfl) (one_newI _ w 3) (by omega) (by omega) (growslice_fits (by omega) (by rw [hz2]; omega))
        rw [hr] at h2
        injection h2 with h2
        subst h2
        simp [Value.ownBlock] at hk
        exact .inr (by omega)
  have ho' : w'.ownsRow 0 3 1 vh' (l ++ [v]).length ((l ++ [v]).map (Value.int .i64)) := by simpa using ho
  refine ⟨vh', w', hr, ?_, ho', hnew, hold, by omega, hg.os, hg.tape, hg.output⟩
  rcases ho'.2 with ⟨_, h0⟩ | ⟨g, cap, cur, e, _⟩
  · simp at h0
  · exact ⟨_, cap, by rw [e, List.length_append]; rfl⟩
section
variable (T : Lz) (x : Int) (l : List Int)
theorem meet1_B : (T.meet1 x).S.B = T.S.B := by unfold Lz.meet1; split <;> rfl
theorem meet1_len : (T.meet1 x).S.marks.length = T.S.marks.length := by unfold Lz.meet1; split <;> simp
theorem meet1_op : T.op ≤ (T.meet1 x).op ∧ (T.meet1 x).op ≤ T.op + 1 := by
  unfold Lz.meet1
  split
  · omega
  · show (T.op ≤ if lvOf T.S.B x = T.S.B.level then T.op + 1 else T.op) ∧ (if lvOf T.S.B x = T.S.B.level then T.op + 1 else T.op) ≤ T.op + 1
    split
    · exact ⟨by omega, by omega⟩
    · exact ⟨by omega, by omega⟩
theorem meet1_oth : (T.meet1 x).oth.length ≤ T.oth.length + 1 := by
  unfold Lz.meet1
  split
  · omega
  · show (if _ then _ else _ : List Int).length ≤ _
    split <;> simp
theorem meet_cons : T.meet (x :: l) = (T.meet1 x).meet l := rfl
theorem meet_snoc : T.meet (l ++ [x]) = (T.meet l).meet1 x := by unfold Lz.meet; rw [List.foldl_append]; rfl
end
theorem meet_B (l : List Int) : ∀ T : Lz, (T.meet l).S.B = T.S.B := by
  induction l with
  | nil => exact fun _ => rfl
  | cons x l ih => exact fun T => by rw [meet_cons, ih, meet1_B]
theorem meet_len (l : List Int) : ∀ T : Lz, (T.meet l).S.marks.length = T.S.marks.length := by
  induction l with
  | nil => exact fun _ => rfl
  | cons x l ih => exact fun T => by rw [meet_cons, ih, meet1_len]
theorem meet_op (l : List Int) : ∀ T : Lz, T.op ≤ (T.meet l).op ∧ (T.meet l).op ≤ T.op + l.length := by
  induction l with
  | nil => exact fun T => ⟨Int.le_refl _, by show T.op ≤ _; simp⟩
  | cons x l ih => exact fun T => by rw [meet_cons]; have h1 := ih (T.meet1 x); have h2 := meet1_op T x; simp only [List.length_cons]; omega
theorem meet_oth (l : List Int) : ∀ T : Lz, (T.meet l).oth.length ≤ T.oth.length + l.length := by
  induction l with
  | nil => exact fun T => Nat.le_refl _
  | cons x l ih => exact fun T => by rw [meet_cons]; have h1 := ih (T.meet1 x); have h2 := meet1_oth T x; simp only [List.length_cons]; omega
theorem meet_take {T : Lz} {c : List Int} {k : Nat} (h : k < c.length) : T.meet (c.take (k + 1)) = (T.meet (c.take k)).meet1 (c.getD k 0) := by
  rw [List.take_succ_eq_append_getElem h, meet_snoc, List.getD_eq_getElem?_getD, List.getElem?_eq_getElem h]
  rfl
section
variable {base : Nat} {w : World} {s : Nat} {XB XQ : Nat → Prop} {R nS nW q gp gw gm gl : Nat} {vh vl vp : Value} {S : Sx}
theorem Ser.keep (h : Ser base w s XB XQ R nS nW q gp gw gm gl vh vl vp S) {w1 : World} (hs : w.heap.size ≤ w1.heap.size) (hb : ∀ g, (XB g ∨ XQ g ∨ g = gm ∨ g = gl ∨ g = s) → w1.heap[g]? = w.heap[g]?) : Ser base w1 s XB XQ R nS nW q gp gw gm gl vh vl vp S :=
  ⟨(hb s (.inr (.inr (.inr (.inr rfl))))).trans h.bk, BdAt.apart h.bd hs fun g hg => hb g (.inl hg), h.qu.far hs fun g hg => hb g (.inr (.inl hg)), (hb gm (.inr (.inr (.inl rfl)))).trans h.ma, (hb gl (.inr (.inr (.inr (.inl rfl))))).trans h.ln, h.bq, h.sb, h.sq, h.mb, h.mq, h.lb, h.lq, h.ml, h.bx, h.qx, h.sx, h.mx, h.lx⟩
end
/-- A block that is none of the searcher's. -/
structure Free (base s : Nat) (XB XQ : Nat → Prop) (gm gl g : Nat) : Prop where
  b : ¬ XB g
  q : ¬ XQ g
  m : g ≠ gm
  l : g ≠ gl
  s : g ≠ s
  base : base ≤ g
theorem Free.no {base s : Nat} {XB XQ : Nat → Prop} {gm gl g : Nat} (h : Free base s XB XQ gm gl g) : ¬ (XB g ∨ XQ g ∨ g = gm ∨ g = gl ∨ g = s) := by
  rintro (e | e | e | e | e)
  · exact h.b e
  · exact h.q e
  · exact h.m e
  · exact h.l e
  · exact h.s e
/-- Where a lesson lies while it is made: the searcher, how many are open, the others. -/
structure Ls (base : Nat) (w : World) (s : Nat) (XB XQ : Nat → Prop) (R nS nW q gp gw gm gl : Nat) (vh vl vp : Value) (gs go gt : Nat) (vo : Value) (T : Lz) : Prop where
  ser : Ser base w s XB XQ R nS nW q gp gw gm gl vh vl vp T.S
  c1 : w.heap[gs]? = some (.cells #[.pointer (some ⟨s, 0, none⟩)] 55)
  c2 : w.heap[go]? = some (.cells #[.int .i64 T.op] 3)
  c3 : w.heap[gt]? = some (.cells #[vo] 38)
  row : w.ownsRow 0 3 1 vo T.oth.length (T.oth.map (Value.int .i64))
  f1 : Free base s XB XQ gm gl gs
  f2 : Free base s XB XQ gm gl go
  f3 : Free base s XB XQ gm gl gt
  fo : ∀ g, vo.ownBlock = some g → Free base s XB XQ gm gl g ∧ g ≠ gs ∧ g ≠ go ∧ g ≠ gt
  n12 : gs ≠ go
  n13 : gs ≠ gt
  n23 : go ≠ gt
section
variable {base : Nat} {w : World} {s : Nat} {XB XQ : Nat → Prop} {R nS nW q gp gw gm gl : Nat} {vh vl vp : Value} {gs go gt : Nat} {vo : Value} {T : Lz}
theorem Ls.d1 (h : Ls base w s XB XQ R nS nW q gp gw gm gl vh vl vp gs go gt vo T) : w.cell? ⟨gs, 0, none⟩ = some (.pointer (some ⟨s, 0, none⟩)) := by rw [Lib.cell_of_heap h.c1]; rfl
theorem Ls.d2 (h : Ls base w s XB XQ R nS nW q gp gw gm gl vh vl vp gs go gt vo T) : w.cell? ⟨go, 0, none⟩ = some (.int .i64 T.op) := by rw [Lib.cell_of_heap h.c2]; rfl
theorem Ls.d3 (h : Ls base w s XB XQ R nS nW q gp gw gm gl vh vl vp gs go gt vo T) : w.cell? ⟨gt, 0, none⟩ = some vo := by rw [Lib.cell_of_heap h.c3]; rfl
theorem Ls.z2 (h : Ls base w s XB XQ R nS nW q gp gw gm gl vh vl vp gs go gt vo T) : w.frozen? ⟨go, 0, none⟩ = false := Lib.frozen_of_heap h.c2 0
theorem Ls.z3 (h : Ls base w s XB XQ R nS nW q gp gw gm gl vh vl vp gs go gt vo T) : w.frozen? ⟨gt, 0, none⟩ = false := Lib.frozen_of_heap h.c3 0
theorem Ls.lt (h : Ls base w s XB XQ R nS nW q gp gw gm gl vh vl vp gs go gt vo T) : gs < w.heap.size ∧ go < w.heap.size ∧ gt < w.heap.size ∧ (∀ g, vo.ownBlock = some g → g < w.heap.size) := ⟨(Array.getElem?_eq_some_iff.1 h.c1).1, (Array.getElem?_eq_some_iff.1 h.c2).1, (Array.getElem?_eq_some_iff.1 h.c3).1, fun g hg => (h.row.lt g hg).2⟩
theorem Ls.sl (h : Ls base w s XB XQ R nS nW q gp gw gm gl vh vl vp gs go gt vo T) : ∃ p c, vo = .slice p T.oth.length c := by
  rcases h.row.2 with ⟨rfl, h0⟩ | ⟨g, cap, cur, rfl, _⟩
  · exact ⟨none, 0, by rw [h0]⟩
  · exact ⟨_, _, rfl⟩
/-- The searcher has changed. -/
theorem Ls.with (h : Ls base w s XB XQ R nS nW q gp gw gm gl vh vl vp gs go gt vo T) {w1 : World} {S' : Sx} (hs : Ser base w1 s XB XQ R nS nW q gp gw gm gl vh vl vp S') (hf : ∀ g, g < w.heap.size → Free base s XB XQ gm gl g → w1.heap[g]? = w.heap[g]?) : Ls base w1 s XB XQ R nS nW q gp gw gm gl vh vl vp gs go gt vo { T with S := S' } := by
  obtain ⟨l1, l2, l3, l4⟩ := h.lt
  exact ⟨hs, (hf gs l1 h.f1).trans h.c1, (hf go l2 h.f2).trans h.c2, (hf gt l3 h.f3).trans h.c3, row_same h.row fun g hg => hf g (l4 g hg) (h.fo g hg).1, h.f1, h.f2, h.f3, h.fo, h.n12, h.n13, h.n23⟩
theorem Ls.setM (h : Ls base w s XB XQ R nS nW q gp gw gm gl vh vl vp gs go gt vo T) (a : Nat) (x : Int) : Ls base (w.setCell ⟨gm, a, none⟩ (.int .i64 x)) s XB XQ R nS nW q gp gw gm gl vh vl vp gs go gt vo { T with S := { T.S with marks := T.S.marks.set a x } } :=
  h.with (h.ser.setM a x) fun g _ hg => heap_setCell_other _ _ _ _ (by simpa using hg.m)
theorem Ls.work (h : Ls base w s XB XQ R nS nW q gp gw gm gl vh vl vp gs go gt vo T) (x : Int) : Ls base (w.setCell ⟨R, 4, none⟩ (.int .i64 x)) s XB XQ R nS nW q gp gw gm gl vh vl vp gs go gt vo T :=
  h.with (h.ser.work x) fun g _ hg => heap_setCell_other _ _ _ _ (show g ≠ R from fun e => hg.b (e ▸ (BdAt.work h.ser.bd x).2.1))
theorem Ls.queue (h : Ls base w s XB XQ R nS nW q gp gw gm gl vh vl vp gs go gt vo T) {w1 : World} {Q' : Qu} (hq : Qm w1 XQ q gp gw vh Q') (hF : Fr XQ w w1 XQ) : Ls base w1 s XB XQ R nS nW q gp gw gm gl vh vl vp gs go gt vo { T with S := { T.S with Q := Q' } } :=
  h.with (h.ser.queue hq hF) fun g hg hf => hF.far g hg hf.q
theorem Ls.later (h : Ls base w s XB XQ R nS nW q gp gw gm gl vh vl vp gs go gt vo T) {w1 : World} (hb : Below w.heap.size w w1) : Ls base w1 s XB XQ R nS nW q gp gw gm gl vh vl vp gs go gt vo T :=
  h.with (h.ser.later hb) fun g hg _ => hb.block g hg
/-- How many are open is written. -/
theorem Ls.setO (h : Ls base w s XB XQ R nS nW q gp gw gm gl vh vl vp gs go gt vo T) (x : Int) : Ls base (w.setCell ⟨go, 0, none⟩ (.int .i64 x)) s XB XQ R nS nW q gp gw gm gl vh vl vp gs go gt vo { T with op := x } := by
  have hset : ∀ k, k ≠ go → (w.setCell ⟨go, 0, none⟩ (.int .i64 x)).heap[k]? = w.heap[k]? := fun k hk => heap_setCell_other _ _ _ _ (by simpa using hk)
  exact ⟨h.ser.keep (by simp) fun g hg => hset g fun e => h.f2.no (e ▸ hg), (hset gs h.n12).trans h.c1, by rw [heap_setCell_same _ _ _ _ _ _ h.c2]; rfl, (hset gt h.n23.symm).trans h.c3, row_same h.row fun g hg => hset g (h.fo g hg).2.2.1, h.f1, h.f2, h.f3, h.fo, h.n12, h.n13, h.n23⟩
/-- One more of the others. -/
theorem Ls.push (h : Ls base w s XB XQ R nS nW q gp gw gm gl vh vl vp gs go gt vo T) (x : Int) (hl : T.oth.length < 1000000) :
    ∃ vo' w', (Builtin.append_ #[38, 38] 38 #[vo, .slice (some ⟨w.heap.size, 0, none⟩) 1 1]).run Tryz.prog (w.alloc (.cells #[.int .i64 x] 3)) = .ok vo' w' ∧ (∃ p c, vo' = .slice p (T.oth.length + 1) c) ∧ w'.heap[gt]? = w.heap[gt]? ∧ Ls base (w'.setCell ⟨gt, 0, none⟩ vo') s XB XQ R nS nW q gp gw gm gl vh vl vp gs go gt vo' { T with oth := T.oth ++ [x] } ∧ (∀ k, vo'.ownBlock = some k → vo.ownBlock = some k ∨ w.heap.size < k) ∧ (∀ k, k < w.heap.size → vo.ownBlock ≠ some k → k ≠ gt → (w'.setCell ⟨gt, 0, none⟩ vo').heap[k]? = w.heap[k]?) ∧ Below base w (w'.setCell ⟨gt, 0, none⟩ vo') := by
  obtain ⟨vo', w', hr, hsl, ho, hnew, hold, hsz, h5, h6, h7⟩ := own_append h.row x hl 38
  obtain ⟨l1, l2, l3, l4⟩ := h.lt
  obtain ⟨ls, lm, ll⟩ := h.ser.ss
  have hset : ∀ k, k ≠ gt → (w'.setCell ⟨gt, 0, none⟩ vo').heap[k]? = w'.heap[k]? := fun k hk => heap_setCell_other _ _ _ _ (by simpa using hk)
  have hgt : w'.heap[gt]? = w.heap[gt]? := hold gt l3 fun e => (h.fo gt e).2.2.2 rfl
  have hfree : ∀ g, vo'.ownBlock = some g → Free base s XB XQ gm gl g ∧ g ≠ gs ∧ g ≠ go ∧ g ≠ gt := fun g hg => by
    rcases hnew g hg with e | e
    · exact h.fo g e
    · exact ⟨⟨fun e1 => by have := BdAt.xb h.ser.bd g e1; omega, fun e1 => by have := h.ser.qu.xb g e1; omega, by omega, by omega, by omega, by have := h.ser.sx; omega⟩, by omega, by omega, by omega⟩
  have hlt : ∀ g, (XB g ∨ XQ g ∨ g = gm ∨ g = gl ∨ g = s) → g < w.heap.size := by
    rintro g (e | e | rfl | rfl | rfl)
    · exact BdAt.xb h.ser.bd g e
    · exact h.ser.qu.xb g e
    · exact lm
    · exact ll
    · exact ls
  have hfar : ∀ k, k < w.heap.size → vo.ownBlock ≠ some k → k ≠ gt → (w'.setCell ⟨gt, 0, none⟩ vo').heap[k]? = w.heap[k]? := fun k hk h1 h2 => (hset k h2).trans (hold k hk h1)
  refine ⟨vo', w', hr, hsl, hgt, ⟨h.ser.keep (by simpa using hsz) fun g hg => hfar g (hlt g hg) (fun e => (h.fo g e).1.no hg) fun e => h.f3.no (e ▸ hg), (hfar gs l1 (fun e => (h.fo gs e).2.1 rfl) h.n13).trans h.c1, (hfar go l2 (fun e => (h.fo go e).2.2.1 rfl) h.n23).trans h.c2, ?_, row_same ho fun g hg => hset g (hfree g hg).2.2.2, h.f1, h.f2, h.f3, hfree, h.n12, h.n13, h.n23⟩, hnew, hfar, ⟨h5, h6, h7, by simpa using hsz, fun k hk => ?_⟩⟩
  · rw [heap_setCell_same _ _ _ _ _ _ (hgt.trans h.c3)]; rfl
  · have hs := h.ser.sx
    exact hfar k (by omega) (fun e => by have := (h.fo k e).1.base; omega) (fun e => by have := h.f3.base; omega)
/-- What grows, or is written elsewhere, leaves a lesson as it is. -/
theorem Ls.grown (h : Ls base w s XB XQ R nS nW q gp gw gm gl vh vl vp gs go gt vo T) {w1 : World} {row : Option Nat} (hg : w.grownBy w1 row) {B : Nat} (hB : ∀ g, XB g ∨ XQ g → g < B) (hr : ∀ r, row = some r → B ≤ r ∧ ∃ o : Obj, w.heap[r]? = some o ∧ o.isCells = false) : Ls base w1 s XB XQ R nS nW q gp gw gm gl vh vl vp gs go gt vo T := by
  obtain ⟨l1, l2, l3, l4⟩ := h.lt
  obtain ⟨ls, lm, ll⟩ := h.ser.ss
  have hc : ∀ g cs ty z, w.heap[g]? = some (Obj.cells cs ty z) → w1.heap[g]? = w.heap[g]? := fun g cs ty z e => hg.block g (Array.getElem?_eq_some_iff.1 e).1 fun e2 => by
    obtain ⟨_, o, h2, h3⟩ := hr g e2.symm
    rw [e] at h2
    injection h2 with h2
    subst h2
    cases h3
  refine ⟨h.ser.keep hg.size ?_, (hc gs _ _ _ h.c1).trans h.c1, (hc go _ _ _ h.c2).trans h.c2, (hc gt _ _ _ h.c3).trans h.c3, row_same h.row fun g e => ?_, h.f1, h.f2, h.f3, h.fo, h.n12, h.n13, h.n23⟩
  · rintro g (e | e | rfl | rfl | rfl)
    · exact hg.block g (BdAt.xb h.ser.bd g e) fun e2 => by have := (hr g e2.symm).1; have := hB g (.inl e); omega
    · exact hg.block g (h.ser.qu.xb g e) fun e2 => by have := (hr g e2.symm).1; have := hB g (.inr e); omega
    · exact hc _ _ _ _ h.ser.ma
    · exact hc _ _ _ _ h.ser.ln
    · exact hc _ _ _ _ h.ser.bk
  · rcases h.row.2 with ⟨rfl, _⟩ | ⟨g', cap, cur, rfl, _, hcc, _⟩
    · cases e
    · simp [Value.ownBlock] at e
      subst e
      exact hc _ _ _ _ hcc
end
end Go.Proofs.YtkinmangilbeeaaGreatDoor.Sr
