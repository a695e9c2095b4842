/- A pair is read. -/
import Derived.Test.YtabnimgpednhjaaDoorJm
namespace Go.Proofs.YtabnimgpednhjaaDoor
open Go.RowKit Go.Deep
set_option maxRecDepth 100000

theorem own_belowG {w w' : World} {base : Nat} {e : TypeId} {sz : Nat} {v : Value} {n : Nat} {xs : List Value} (h : w.ownsRow base e sz v n xs) (hb : Below w.heap.size w w') : w'.ownsRow base e sz v n xs := by
  refine ⟨h.1, ?_⟩
  rcases h.2 with hn | ⟨g, cap, cur, hv, hbg, hg, rest⟩
  · exact .inl hn
  · exact .inr ⟨g, cap, cur, hv, hbg, (hb.block g (Array.getElem?_eq_some_iff.1 hg).1).trans hg, rest⟩
theorem ownBlock_neG {w : World} {B : Nat} {e T : TypeId} {sz : Nat} {v : Value} {n : Nat} {xs : List Value} {b : Nat} {cs : Array Value} {fr : Nat × Nat} (hown : w.ownsRow B e sz v n xs) (hb : w.heap[b]? = some (.cells cs T fr)) (hTe : T ≠ e) : v.ownBlock ≠ some b := by
  rcases hown.2 with ⟨rfl, _⟩ | ⟨g, cap, cur, rfl, _, hg, _⟩
  · simp [Value.ownBlock]
  · intro h
    simp only [Value.ownBlock, Option.some.injEq] at h
    subst h
    rw [hg] at hb
    simp only [Option.some.injEq, Obj.cells.injEq] at hb
    exact hTe hb.2.1.symm
/-- A row of things in a field of a block. -/
structure Fg (e : TypeId) (sz : Nat) (w : World) (base R o : Nat) (arr : Array Value) (t : TypeId) (v : Value) (n : Nat) (vs : List Value) : Prop where
  c : w.heap[R]? = some (.cells arr t (0, 0))
  at' : arr[o]? = some v
  row : w.ownsRow base e sz v n vs
  hR : base ≤ R
theorem Fg.later {e : TypeId} {sz : Nat} {w w' : World} {base R o : Nat} {arr : Array Value} {t : TypeId} {v : Value} {n : Nat} {vs : List Value} (h : Fg e sz w base R o arr t v n vs) (hb : Below w.heap.size w w') : Fg e sz w' base R o arr t v n vs :=
  ⟨(hb.block _ (Array.getElem?_eq_some_iff.1 h.c).1).trans h.c, h.at', own_belowG h.row hb, h.hR⟩
theorem Fg.cell {e : TypeId} {sz : Nat} {w : World} {base R o : Nat} {arr : Array Value} {t : TypeId} {v : Value} {n : Nat} {vs : List Value} (h : Fg e sz w base R o arr t v n vs) : w.cell? ⟨R, o, none⟩ = some v := by
  rw [Lib.cell_of_heap h.c]; exact h.at'
theorem Fg.slice {e : TypeId} {sz : Nat} {w : World} {base R o : Nat} {arr : Array Value} {t : TypeId} {v : Value} {n : Nat} {vs : List Value} (h : Fg e sz w base R o arr t v n vs) : ∃ p c, v = .slice p n c := by
  rcases h.row.2 with ⟨rfl, rfl⟩ | ⟨g, cap, cur, rfl, _⟩
  · exact ⟨_, _, rfl⟩
  · exact ⟨_, _, rfl⟩
theorem Fg.put {e : TypeId} {sz : Nat} {w w1 wa w2 : World} {base R o : Nat} {arr : Array Value} {t : TypeId} {v v' : Value} {n n' : Nat} {vs vs' : List Value} (hbs : base ≤ w.heap.size) (hb : Below w.heap.size w w1) (h : Fg e sz w1 base R o arr t v n vs) (hte : t ≠ e) (ha : Below w1.heap.size w1 wa) (hg : wa.grownBy w2 v.ownBlock) (hown : w2.ownsRow base e sz v' n' vs') :
    (w2.setCell ⟨R, o, none⟩ v').heap[R]? = some (.cells (arr.setIfInBounds o v') t (0, 0)) ∧ (w2.setCell ⟨R, o, none⟩ v').ownsRow base e sz v' n' vs' ∧ Kept w (w2.setCell ⟨R, o, none⟩ v') R v := by
  have h1 := h.later ha
  have hne := ownBlock_neG h1.row h1.c hte
  have hlt := (Array.getElem?_eq_some_iff.1 h1.c).1
  have t2 : w2.heap[R]? = some (.cells arr t (0, 0)) := (hg.block _ hlt (fun e => hne e.symm)).trans h1.c
  have hsa := ha.size
  have hsb := hb.size
  have hB : Below base w (w2.setCell ⟨R, o, none⟩ v') := (((hb.mono hbs).trans (ha.mono (by omega))).grown hg (by omega) (fun j hj => (h1.row.lt j hj).1)).setCell (p := ⟨R, o, none⟩) h.hR _
  refine ⟨?_, ?_, hB.os, hB.tape, hB.output, hB.size, fun k hk hkR hkv => ?_⟩
  · rw [heap_setCell_same _ _ _ _ _ _ t2]
  · exact ownsRow_setCell_other hown (ownBlock_neG hown t2 hte) _
  · rw [Below.heap_setCell _ _ _ _ hkR, hg.block k (by omega) (fun e => hkv e.symm), ha.block k (by omega), hb.block k hk]
theorem info58 : (Tryd.prog.info? 61).map (fun i => (i.zero, i.size, i.bytes)) = some (some (.agg #[.int .i64 0, .int .i64 0]), 2, 16) := by kernel_rfl
/-- Pairs' cells, one behind the other. -/
def flatP (l : List (Int × Int)) : List Value := l.flatMap fun p => [.int .i64 p.1, .int .i64 p.2]
theorem flatP_app (l : List (Int × Int)) (x y : Int) : flatP (l ++ [(x, y)]) = flatP l ++ [.int .i64 x, .int .i64 y] := by simp [flatP]
theorem two_newsI (x y : Int) (w : World) : ∀ j u, ([.int .i64 x, .int .i64 y] : List Value)[j]? = some u → (w.alloc (.cells #[.int .i64 x, .int .i64 y] 61)).cell? ((⟨w.heap.size, 0, none⟩ : Addr).add j) = some u := fun j u hj => by
  match j, hj with
  | 0, hj => simp at hj; subst hj; simp [go_sem, Addr.add]
  | 1, hj => simp at hj; subst hj; simp [go_sem, Addr.add]
theorem two_cellI (x y : Int) : ∀ u ∈ ([.int .i64 x, .int .i64 y] : List Value), u.oneCell' = true := fun u hu => by
  simp at hu; rcases hu with rfl | rfl <;> rfl
/-- Two pointers into a new block. -/
theorem two_ptrs (w : World) : PtrsAt ((w.alloc (.cells #[.int .i64 0, .int .i64 0] 61)).alloc (.cells #[.pointer (some ⟨w.heap.size, 0, none⟩), .pointer (some ⟨w.heap.size, 1, none⟩)] 69)) (some ⟨w.heap.size + 1, 0, none⟩) w.heap.size [0, 1] := fun _ => ⟨w.heap.size + 1, 0, rfl, by omega, fun i hi => by
    match i, hi with
    | 0, _ => simp [go_sem]
    | 1, _ => simp [go_sem]⟩

set_option maxHeartbeats 4000000 in
theorem readPair_no (R o : Nat) (p : Option Addr) (cp : Nat) (ws : List ByteArray) (hws : ws.length ≤ 1000000) (w : World) (hS : StrsAt w p ws) (hno : readB ws 2 = false) :
    Calls Tryd.prog 30 #[.pointer (some ⟨R, o, none⟩), .slice p ws.length cp] w fun e w' => e = .returned (.bool false) ∧ Below w.heap.size w w' := by
  have hb1 : Below w.heap.size w (w.alloc (.cells #[.int .i64 0, .int .i64 0] 61)) := bal (Below.refl _ _) _
  have hb2 : Below w.heap.size w ((w.alloc (.cells #[.int .i64 0, .int .i64 0] 61)).alloc (.cells #[.pointer (some ⟨w.heap.size, 0, none⟩), .pointer (some ⟨w.heap.size, 1, none⟩)] 69)) := bal hb1 _
  have HRN := hide (readNumbers_any w.heap.size 61 #[.int .i64 0, .int .i64 0] [0, 1] p (some ⟨w.heap.size + 1, 0, none⟩) cp 2 ws hws (by simp) (by simp) _ (strs_below hS hb2) (two_ptrs w) (alloc_was (heap_alloc_new w _)))
  have HB2 := hide hb2
  simp only [List.length_cons, List.length_nil] at HRN
  rw [show 0 + 1 + 1 = 2 from rfl, hno] at HRN
  clear hb1 hb2 hS
  go_enter Tryd.func30, Tryd.ntmps30
  go_wp2_with fail
  refine HRN.out.mono ?_
  rintro e w1 ⟨rfl, hb3, -⟩
  have HB := hide (HB2.out.trans hb3)
  clear hb3 HB2
  go_wp2_with fail
  go_ret
  exact ⟨rfl, HB.out⟩

set_option maxHeartbeats 4000000 in
theorem readPair_ok (base R o : Nat) (arr : Array Value) (t : TypeId) (ht : t ≠ 61) (v : Value) (l : List (Int × Int)) (hl : l.length ≤ 100000) (p : Option Addr) (cp : Nat) (ws : List ByteArray) (hws : ws.length ≤ 1000000) (x y : Int) (hta : tellAll ws = some [x, y]) (w : World) (hbs : base ≤ w.heap.size) (hS : StrsAt w p ws) (hF : Fg 61 2 w base R o arr t v l.length (flatP l)) :
    Calls Tryd.prog 30 #[.pointer (some ⟨R, o, none⟩), .slice p ws.length cp] w fun e w' => e = .returned (.bool true) ∧ ∃ v', w'.heap[R]? = some (.cells (arr.setIfInBounds o v') t (0, 0)) ∧ w'.ownsRow base 61 2 v' (l ++ [(x, y)]).length (flatP (l ++ [(x, y)])) ∧ Kept w w' R v ∧ (v'.ownBlock = v.ownBlock ∨ ∃ g, v'.ownBlock = some g ∧ w.heap.size ≤ g) := by
  obtain ⟨i0, hi, hz0, hz1, hz2⟩ := info_parts info58
  have hyes : readB ws 2 = true := by unfold readB; rw [hta]; rfl
  have hb1 : Below w.heap.size w (w.alloc (.cells #[.int .i64 0, .int .i64 0] 61)) := bal (Below.refl _ _) _
  have hb2 : Below w.heap.size w ((w.alloc (.cells #[.int .i64 0, .int .i64 0] 61)).alloc (.cells #[.pointer (some ⟨w.heap.size, 0, none⟩), .pointer (some ⟨w.heap.size, 1, none⟩)] 69)) := bal hb1 _
  have HRN := hide (readNumbers_any w.heap.size 61 #[.int .i64 0, .int .i64 0] [0, 1] p (some ⟨w.heap.size + 1, 0, none⟩) cp 2 ws hws (by simp) (by simp) _ (strs_below hS hb2) (two_ptrs w) (alloc_was (heap_alloc_new w _)))
  have HB2 := hide hb2
  simp only [List.length_cons, List.length_nil] at HRN
  rw [show 0 + 1 + 1 = 2 from rfl, hyes] at HRN
  have HF := hide hF
  have HIN := hide (And.intro hi (And.intro hz0 (And.intro hz1 hz2)))
  have HTA := hide hta
  obtain ⟨pv, cv, rfl⟩ := hF.slice
  clear hb1 hb2 hS hF hi hz0 hz1 hz2 hta hyes
  go_enter Tryd.func30, Tryd.ntmps30
  go_wp2_with fail
  refine HRN.out.mono ?_
  rintro e w1 ⟨rfl, hb3, -, hst⟩
  have hBn : w1.heap[w.heap.size]? = some (.cells #[.int .i64 x, .int .i64 y] 61 (0, 0)) := hst [x, y] HTA.out rfl
  have hbw := HB2.out.trans hb3
  have n1 : w1.cell? ⟨w.heap.size, 0, none⟩ = some (.int .i64 x) := by rw [Lib.cell_of_heap hBn]; rfl
  have n2 : w1.cell? ⟨w.heap.size, 1, none⟩ = some (.int .i64 y) := by rw [Lib.cell_of_heap hBn]; rfl
  have hF1 := HF.out.later hbw
  have m1 := hF1.cell
  have f1 : w1.frozen? ⟨R, o, none⟩ = false := Lib.frozen_of_heap hF1.c o
  have HF1 := hide hF1
  have HBW := hide hbw
  have hsz := hbw.size
  have hR1 := World.block_lt_of_cell? _ _ m1
  simp only at hR1
  have hR2 := World.new_ne w1 ⟨R, o, none⟩ m1
  simp only at hR2
  clear hb3 hst hBn hbw hF1 HRN HB2 HTA
  have hFd : Fg 61 2 w1.drew base R o arr t (.slice pv l.length cv) l.length (flatP l) := ⟨HF1.out.c, HF1.out.at', HF1.out.row, HF1.out.hR⟩
  have hFa := hFd.later (bal (Below.refl _ _) (.cells #[.int .i64 x, .int .i64 y] 61))
  have hne := ownBlock_neG hFa.row hFa.c (by exact ht)
  have HFD := hide hFd
  have HFA := hide hFa
  have HNE := hide hne
  clear hFd hFa hne
  go_wp2_with fail
  go_region_law (refine step_append_lies _ rfl (.tmp 15) (.tmp 17) 23 rfl base 61 i0 (.agg #[.int .i64 0, .int .i64 0]) 2 16 Tryd.underlying23 HIN.out.1 HIN.out.2.1 HIN.out.2.2.1 HIN.out.2.2.2 rfl (by decide) _ l.length (flatP l) (by simp [Act.eval]) (HFD.out.row.alloc _) ⟨w1.heap.size, 0, none⟩ 1 1 [.int .i64 x, .int .i64 y] (by simp [Act.eval]) rfl (two_newsI x y w1.drew) (two_cellI x y) (by decide) (by unfold maxLen; omega) (by omega) (by simp; omega) (w1.heap.size + 1) (by simp) ?_
                 intro g cap w2 hown2 hg2 hat2 hlt2
                 have t2 : w2.heap[R]? = some (.cells arr t (0, 0)) := (hg2.block _ (Array.getElem?_eq_some_iff.1 HFA.out.c).1 (fun e => HNE.out e.symm)).trans HFA.out.c
                 have g2 : w2.cell? ⟨R, o, none⟩ = some (.slice pv l.length cv) := by rw [Lib.cell_of_heap t2]; exact HFA.out.at'
                 have f2 : w2.frozen? ⟨R, o, none⟩ = false := Lib.frozen_of_heap t2 o)
  all_goals
    have hpt := HF1.out.put (v' := .slice (some ⟨g, 0, none⟩) (l.length + 1) cap) (n' := (l ++ [(x, y)]).length) (vs' := flatP (l ++ [(x, y)])) hbs HBW.out ht (bal (Below.refl _ w1) (.cells #[.int .i64 x, .int .i64 y] 61)).drew hg2 (by rw [flatP_app]; simpa using hown2)
    have HPT := hide hpt
    have HAT : Hid ((Value.slice (some ⟨g, 0, none⟩) (l.length + 1) cap).ownBlock = (Value.slice pv l.length cv).ownBlock ∨ ∃ g', (Value.slice (some ⟨g, 0, none⟩) (l.length + 1) cap).ownBlock = some g' ∧ w.heap.size ≤ g') := by
      rcases hat2 with e | e
      · exact .inl e.symm
      · exact .inr ⟨g, rfl, by omega⟩
    clear hpt hat2 hown2 hg2
    go_wp2_with fail
    go_ret
    exact ⟨rfl, _, HPT.out.1, HPT.out.2.1, HPT.out.2.2, HAT.out⟩
end Go.Proofs.YtabnimgpednhjaaDoor
