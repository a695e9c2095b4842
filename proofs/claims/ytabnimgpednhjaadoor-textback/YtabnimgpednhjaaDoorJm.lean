/- A mark is read. -/
import Derived.Test.YtabnimgpednhjaaDoorJl
namespace Go.Proofs.YtabnimgpednhjaaDoor
open Go.RowKit Go.Deep
set_option maxRecDepth 100000

/-- A list of numbers in a field of a block. -/
structure Fm (w : World) (base R o : Nat) (arr : Array Value) (t : TypeId) (v : Value) (l : List Int) : Prop where
  c : w.heap[R]? = some (.cells arr t (0, 0))
  at' : arr[o]? = some v
  row : w.ownsRow base 3 1 v l.length (l.map (Value.int .i64))
  hR : base ≤ R
theorem Fm.later {w w' : World} {base R o : Nat} {arr : Array Value} {t : TypeId} {v : Value} {l : List Int} (h : Fm w base R o arr t v l) (hb : Below w.heap.size w w') : Fm w' base R o arr t v l :=
  ⟨(hb.block _ (Array.getElem?_eq_some_iff.1 h.c).1).trans h.c, h.at', own_below h.row hb, h.hR⟩
theorem Fm.cell {w : World} {base R o : Nat} {arr : Array Value} {t : TypeId} {v : Value} {l : List Int} (h : Fm w base R o arr t v l) : w.cell? ⟨R, o, none⟩ = some v := by
  rw [Lib.cell_of_heap h.c]; exact h.at'
/-- All but a block, and what a value owns, is as it was. -/
structure Kept (w w' : World) (R : Nat) (v : Value) : Prop where
  os : w'.os = w.os
  tape : w'.tape = w.tape
  output : w'.output = w.output
  size : w.heap.size ≤ w'.heap.size
  block : ∀ k, k < w.heap.size → k ≠ R → v.ownBlock ≠ some k → w'.heap[k]? = w.heap[k]?
theorem one_newsI (x : Int) (w : World) : ∀ j u, ([.int .i64 x] : List Value)[j]? = some u → (w.alloc (.cells #[.int .i64 x] 3)).cell? ((⟨w.heap.size, 0, none⟩ : Addr).add j) = some u := fun j u hj => by
  match j, hj with
  | 0, hj => simp at hj; subst hj; simp [go_sem, Addr.add]
theorem one_cellI (x : Int) : ∀ u ∈ ([.int .i64 x] : List Value), u.oneCell' = true := fun u hu => by
  simp at hu; subst hu; rfl

theorem Fm.put {w w1 wa w2 : World} {base R o : Nat} {arr : Array Value} {t : TypeId} {v v' : Value} {l l' : List Int} (hbs : base ≤ w.heap.size) (hb : Below w.heap.size w w1) (h : Fm w1 base R o arr t v l) (ht3 : t ≠ 3) (ha : Below w1.heap.size w1 wa) (hg : wa.grownBy w2 v.ownBlock) (hown : w2.ownsRow base 3 1 v' l'.length (l'.map (Value.int .i64))) :
    (w2.setCell ⟨R, o, none⟩ v').heap[R]? = some (.cells (arr.setIfInBounds o v') t (0, 0)) ∧ (w2.setCell ⟨R, o, none⟩ v').ownsRow base 3 1 v' l'.length (l'.map (Value.int .i64)) ∧ Kept w (w2.setCell ⟨R, o, none⟩ v') R v := by
  have h1 := h.later ha
  have hne := Lib.ownBlock_ne h1.row h1.c ht3
  have hlt := (Array.getElem?_eq_some_iff.1 h1.c).1
  have t2 : w2.heap[R]? = some (.cells arr t (0, 0)) := (hg.block _ hlt (fun e => hne e.symm)).trans h1.c
  have hsa := ha.size
  have hsb := hb.size
  have hB : Below base w (w2.setCell ⟨R, o, none⟩ v') := (((hb.mono hbs).trans (ha.mono (by omega))).grown hg (by omega) (fun j hj => (h1.row.lt j hj).1)).setCell (p := ⟨R, o, none⟩) h.hR _
  refine ⟨?_, ?_, hB.os, hB.tape, hB.output, hB.size, fun k hk hkR hkv => ?_⟩
  · rw [heap_setCell_same _ _ _ _ _ _ t2]
  · exact ownsRow_setCell_other hown (Lib.ownBlock_ne hown t2 ht3) _
  · rw [Below.heap_setCell _ _ _ _ hkR, hg.block k (by omega) (fun e => hkv e.symm), ha.block k (by omega), hb.block k hk]

set_option maxHeartbeats 4000000 in
theorem readMark_no (R o : Nat) (p : Option Addr) (cp : Nat) (ws : List ByteArray) (hws : ws.length ≤ 1000000) (w : World) (hS : StrsAt w p ws) (hno : readB ws 1 = false) :
    Calls Tryd.prog 31 #[.pointer (some ⟨R, o, none⟩), .slice p ws.length cp] w fun e w' => e = .returned (.bool false) ∧ Below w.heap.size w w' := by
  have hb1 : Below w.heap.size w (w.alloc (.cells #[.int .i64 0] 3)) := bal (Below.refl _ _) _
  have hb2 : Below w.heap.size w ((w.alloc (.cells #[.int .i64 0] 3)).alloc (.cells #[.pointer (some ⟨w.heap.size, 0, none⟩)] 69)) := bal hb1 _
  have HRN := hide (readNumbers_any w.heap.size 3 #[.int .i64 0] [0] p (some ⟨w.heap.size + 1, 0, none⟩) cp 1 ws hws (by simp) (by simp) _ (strs_below hS hb2) (fun _ => ⟨w.heap.size + 1, 0, rfl, by omega, fun i hi => by
    have : i = 0 := by simp at hi; exact hi
    subst this
    simp [go_sem]⟩) (alloc_was (heap_alloc_new w _)))
  have HB2 := hide hb2
  simp only [List.length_cons, List.length_nil] at HRN
  rw [show 0 + 1 = 1 from rfl, hno] at HRN
  clear hb1 hb2 hS
  go_enter Tryd.func31, Tryd.ntmps31
  go_wp2_with fail
  refine HRN.out.mono ?_
  rintro e w1 ⟨rfl, hb3, -⟩
  have HB := hide (HB2.out.trans hb3)
  clear hb3 HB2
  go_wp2_with fail
  go_ret
  exact ⟨rfl, HB.out⟩

set_option maxHeartbeats 4000000 in
theorem readMark_ok (base R o : Nat) (arr : Array Value) (t : TypeId) (ht3 : t ≠ 3) (v : Value) (l : List Int) (hl : l.length ≤ 100000) (p : Option Addr) (cp : Nat) (ws : List ByteArray) (hws : ws.length ≤ 1000000) (n : Int) (hta : tellAll ws = some [n]) (w : World) (hbs : base ≤ w.heap.size) (hS : StrsAt w p ws) (hF : Fm w base R o arr t v l) :
    Calls Tryd.prog 31 #[.pointer (some ⟨R, o, none⟩), .slice p ws.length cp] w fun e w' => e = .returned (.bool true) ∧ ∃ v', w'.heap[R]? = some (.cells (arr.setIfInBounds o v') t (0, 0)) ∧ w'.ownsRow base 3 1 v' (l ++ [n]).length ((l ++ [n]).map (Value.int .i64)) ∧ Kept w w' R v ∧ (v'.ownBlock = v.ownBlock ∨ ∃ g, v'.ownBlock = some g ∧ w.heap.size ≤ g) := by
  obtain ⟨i0, hi, hz0, hz1, hz2⟩ := info_parts info3
  have hyes : readB ws 1 = true := by unfold readB; rw [hta]; rfl
  have hb1 : Below w.heap.size w (w.alloc (.cells #[.int .i64 0] 3)) := bal (Below.refl _ _) _
  have hb2 : Below w.heap.size w ((w.alloc (.cells #[.int .i64 0] 3)).alloc (.cells #[.pointer (some ⟨w.heap.size, 0, none⟩)] 69)) := bal hb1 _
  have HRN := hide (readNumbers_any w.heap.size 3 #[.int .i64 0] [0] p (some ⟨w.heap.size + 1, 0, none⟩) cp 1 ws hws (by simp) (by simp) _ (strs_below hS hb2) (fun _ => ⟨w.heap.size + 1, 0, rfl, by omega, fun i hi => by
    have : i = 0 := by simp at hi; exact hi
    subst this
    simp [go_sem]⟩) (alloc_was (heap_alloc_new w _)))
  have HB2 := hide hb2
  simp only [List.length_cons, List.length_nil] at HRN
  rw [show 0 + 1 = 1 from rfl, hyes] at HRN
  have HF := hide hF
  have HIN := hide (And.intro hi (And.intro hz0 (And.intro hz1 hz2)))
  have HTA := hide hta
  obtain ⟨pv, cv, rfl, -⟩ := Ev.owns_ints hF.row
  clear hb1 hb2 hS hF hi hz0 hz1 hz2 hta hyes
  go_enter Tryd.func31, Tryd.ntmps31
  go_wp2_with fail
  refine HRN.out.mono ?_
  rintro e w1 ⟨rfl, hb3, -, hst⟩
  have hBn : w1.heap[w.heap.size]? = some (.cells #[.int .i64 n] 3 (0, 0)) := hst [n] HTA.out rfl
  have hbw := HB2.out.trans hb3
  have n1 : w1.cell? ⟨w.heap.size, 0, none⟩ = some (.int .i64 n) := by rw [Lib.cell_of_heap hBn]; rfl
  have hF1 := HF.out.later hbw
  have m1 := hF1.cell
  have f1 : w1.frozen? ⟨R, o, none⟩ = false := Lib.frozen_of_heap hF1.c o
  have HF1 := hide hF1
  have HBW := hide hbw
  have hsz := hbw.size
  have hR1 := World.block_lt_of_cell? _ _ m1
  simp only at hR1
  have hR2 := World.new_ne w1 ⟨R, o, none⟩ m1
  simp only at hR2
  clear hb3 hst hBn hbw hF1 HRN HB2 HTA
  have hFd : Fm w1.drew base R o arr t (.slice pv l.length cv) l := ⟨HF1.out.c, HF1.out.at', HF1.out.row, HF1.out.hR⟩
  have hFa := hFd.later (bal (Below.refl _ _) (.cells #[.int .i64 n] 3))
  have hne := Lib.ownBlock_ne hFa.row hFa.c (by exact ht3)
  have HFD := hide hFd
  have HFA := hide hFa
  have HNE := hide hne
  clear hFd hFa hne
  go_wp2_with fail
  go_region_law (refine step_append_lies _ rfl (.tmp 13) (.tmp 15) 24 rfl base 3 i0 (.int .i64 0) 1 8 Tryd.underlying24 HIN.out.1 HIN.out.2.1 HIN.out.2.2.1 HIN.out.2.2.2 rfl (by decide) _ l.length (l.map (Value.int .i64)) (by simp [Act.eval]) (HFD.out.row.alloc _) ⟨w1.heap.size, 0, none⟩ 1 1 [.int .i64 n] (by simp [Act.eval]) rfl (one_newsI n w1.drew) (one_cellI n) (by decide) (by unfold maxLen; omega) (by omega) (by simp; omega) (w1.heap.size + 1) (by simp) ?_
                 intro g cap w2 hown2 hg2 hat2 hlt2
                 have t2 : w2.heap[R]? = some (.cells arr t (0, 0)) := (hg2.block _ (Array.getElem?_eq_some_iff.1 HFA.out.c).1 (fun e => HNE.out e.symm)).trans HFA.out.c
                 have g2 : w2.cell? ⟨R, o, none⟩ = some (.slice pv l.length cv) := by rw [Lib.cell_of_heap t2]; exact HFA.out.at'
                 have f2 : w2.frozen? ⟨R, o, none⟩ = false := Lib.frozen_of_heap t2 o)
  all_goals
    have hpt := HF1.out.put (v' := .slice (some ⟨g, 0, none⟩) (l.length + 1) cap) (l' := l ++ [n]) hbs HBW.out ht3 (bal (Below.refl _ w1) (.cells #[.int .i64 n] 3)).drew hg2 (by simpa using hown2)
    have HPT := hide hpt
    have HAT : Hid ((Value.slice (some ⟨g, 0, none⟩) (l.length + 1) cap).ownBlock = (Value.slice pv l.length cv).ownBlock ∨ ∃ g', (Value.slice (some ⟨g, 0, none⟩) (l.length + 1) cap).ownBlock = some g' ∧ w.heap.size ≤ g') := by
      rcases hat2 with e | e
      · exact .inl e.symm
      · exact .inr ⟨g, rfl, by omega⟩
    clear hpt hat2 hown2 hg2
    go_wp2_with fail
    go_ret
    exact ⟨rfl, _, HPT.out.1, HPT.out.2.1, HPT.out.2.2, HAT.out⟩
end Go.Proofs.YtabnimgpednhjaaDoor
