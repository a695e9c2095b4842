/- A board: a number chosen; which of a clause's numbers may be; a clause's numbers moved. -/
import Derived.Test.YtkinmangilbeeaaGreatDoorPcM
namespace Go.Proofs.YtkinmangilbeeaaGreatDoor.Pf
open Go.RowKit Go.Maps Go.WideMaps
set_option maxRecDepth 100000

set_option maxHeartbeats 2000000 in
theorem indexJ_any (fn : FuncId) (c : Value) (f : Int → Bool) (l : List Int) (p : Option Addr) (cap : Nat) (w : World) (hl : l.length ≤ maxLen) (J : World → Prop) (hJ : J w) (hI : ∀ wr, J wr → IntsAt wr p l) (hent : ∀ (args : Array Value) (w : World), (callFunc fn args).run Tryz.prog w = .ok (.enter fn args) w)
    (hcl : ∀ wr, J wr → ∀ i (h : i < l.length), Calls Tryz.prog fn #[.int .i64 l[i], c] wr fun e w' => e = .returned (.bool (f l[i])) ∧ J w') :
    Calls Tryz.prog 31 #[.slice p l.length cap, .func (.func fn) #[] #[c]] w fun e w' => e = .returned (.int .i64 (findE f l)) ∧ J w' := by
  have HC : Hid _ := hcl
  have HI : Hid _ := hI
  have HJ : Hid (J w) := hJ
  unfold maxLen at hl
  clear hcl hI hJ
  go_enter Tryz.func31, Tryz.ntmps31
  go_wp2
  go_loopw [8] (fun i wr => ∃ k : Nat, k ≤ l.length ∧ i = .int .i64 k ∧ Hid (∀ i (hi : i < l.length), i < k → f l[i] = false) ∧ Hid (J wr)) (fun i _ => l.length - (intOf i).toNat)
  case atStart => exact ⟨0, Nat.zero_le _, rfl, fun i hi h => by omega, HJ⟩
  case round =>
    obtain ⟨k, hk, rfl, hno, hJw⟩ := hrel
    by_cases hlt : k < l.length
    · obtain ⟨b, off, rfl, hc⟩ := HI.out wr hJw.out (by omega)
      have hck := hc k hlt
      have hcall := HC.out wr hJw.out k hlt
      have HH : Hid _ := findE_hit f l k hlt hno.out
      clear hc
      cases hf : f l[k]
      · have HN : Hid (∀ i (hi : i < l.length), i < k + 1 → f l[i] = false) := by
          intro i hi h
          rcases Nat.lt_succ_iff_lt_or_eq.1 h with h1 | rfl
          · exact hno.out i hi h1
          · exact hf
        rw [hf] at hcall
        have HCC : Hid (Unit → _) := fun _ => hcall
        clear hcall hf hno HH
        generalize l[k] = x at *
        go_wp2_with fail
        refine (HCC.out ()).mono ?_
        rintro e w' ⟨rfl, hb2⟩
        have HJ2 := hide hb2
        clear hb2
        go_wp2
        go_roundw
        case rel => exact ⟨k + 1, by omega, by go_num, HN, HJ2⟩
        case measure => simp [intOf]; omega
      · rw [hf] at hcall
        have HCC : Hid (Unit → _) := fun _ => hcall
        have HV : Hid (findE f l = k) := HH.out hf
        clear hcall hf hno HH
        generalize l[k] = x at *
        go_wp2_with fail
        refine (HCC.out ()).mono ?_
        rintro e w' ⟨rfl, hb2⟩
        have HJ2 := hide hb2
        clear hb2
        go_wp2
        go_ret
        exact ⟨ret_int HV.out.symm, HJ2.out⟩
    · have HV : Hid (findE f l = -1) := findE_miss f l (fun i hi => hno.out i hi (by omega))
      go_wp2
      go_ret
      exact ⟨ret_int HV.out.symm, hJw.out⟩

set_option maxHeartbeats 2000000 in
theorem mayBe_any (Q : Nat) (x : Int) (hx : Small x) (w : World) (X : Nat → Prop) (R S W nS nW : Nat) (vc vs : Value) (wk : Int) (cg cc : Nat → Nat) (wv : Int → Value) (B : Bd) (h : Mb w X R S W nS nW vc vs wk cg cc wv B) (hQ : w.cell? ⟨Q, 0, none⟩ = some (.pointer (some ⟨R, 0, none⟩))) :
    Calls Tryz.prog 77 #[.int .i64 x, .pointer (some ⟨Q, 0, none⟩)] w fun e w' => e = .returned (.bool (!decide (-x ∈ B.st))) ∧ ∃ wk', Mb w' X R S W nS nW vc vs wk' cg cc wv B ∧ Fr X w w' X := by
  have c4 := h.c4
  have f4 := h.fz 4
  have H1 := hide (h.work (wrap64 (wk + 1)))
  have HF1 : Hid (Fr X w (w.setCell ⟨R, 4, none⟩ (.int .i64 (wrap64 (wk + 1)))) X) := Fr.set (q := ⟨R, 4, none⟩) h.xr _
  have HIN := hide (isNot_any R S nS B.st x hx _ H1.out.c5 H1.out.so)
  have hQR : (⟨Q, 0, none⟩ : Addr).block ≠ (⟨R, 4, none⟩ : Addr).block := by
    intro e
    simp only at e
    subst e
    have := h.c0
    rw [hQ] at this
    injection this with this
    rcases h.rw.2 with ⟨e, _⟩ | ⟨g, cap, cur, e, _⟩
    · rw [e] at this; cases this
    · rw [e] at this; cases this
  have q1 : (w.setCell ⟨R, 4, none⟩ (.int .i64 (wrap64 (wk + 1)))).cell? ⟨Q, 0, none⟩ = some (.pointer (some ⟨R, 0, none⟩)) := cell_set_far hQ hQR
  clear h
  generalize decide (-x ∈ B.st) = t at *
  go_enter Tryz.func77, Tryz.ntmps77
  go_wp2_with fail
  refine HIN.out.mono ?_
  rintro e w' ⟨rfl, rfl⟩
  go_wp2_with fail
  go_ret
  exact ⟨rfl, _, H1.out, HF1.out⟩

set_option maxHeartbeats 2000000 in
theorem choose_any (w : World) (X : Nat → Prop) (R S W nS nW : Nat) (vc vs : Value) (wk : Int) (cg cc : Nat → Nat) (wv : Int → Value) (B : Bd) (h : Mb w X R S W nS nW vc vs wk cg cc wv B) (n : Int) (hn : Small n) (hno : n ∉ B.st) (hl : B.sp.length ≤ 1000000) (hnS : nS ≤ 1000000000000000) (hlv : 0 ≤ B.level ∧ B.level ≤ 1000000) :
    Calls Tryz.prog 37 #[.pointer (some ⟨R, 0, none⟩), .int .i64 n] w fun e w' => e = .returned (.tuple #[]) ∧ ∃ X' vs' wk', Mb w' X' R S W (nS + 1) nW vc vs' wk' cg cc wv (B.choose n) ∧ Fr X w w' X' := by
  have c2 := h.c2
  have f2 := h.fz 2
  have H1 : Hid (Mb (w.setCell ⟨R, 2, none⟩ (.int .i64 (B.level + 1))) X R S W nS nW vc vs wk cg cc wv { B with level := B.level + 1 }) :=
    h.board ((Below.refl 0 w).setCell (Nat.zero_le _) _).size (fun g hg => Below.heap_setCell _ _ _ _ hg) (B.level + 1) B.lost B.spread wk (by rw [heap_setCell_same _ _ _ _ _ _ h.bd]; rfl)
  have HF1 : Hid (Fr X w (w.setCell ⟨R, 2, none⟩ (.int .i64 (B.level + 1))) X) := Fr.set (q := ⟨R, 2, none⟩) h.xr _
  have HP := hide (put_any _ X R S W nS nW vc vs wk cg cc wv _ H1.out n (-1) hn hno hl hnS)
  have hw : wrap64 (B.level + 1) = B.level + 1 := by unfold wrap64; omega
  clear h
  go_enter Tryz.func37, Tryz.ntmps37
  go_wp2_with fail
  refine HP.out.mono ?_
  rintro e w' ⟨rfl, X', vs', wk', hM, hF⟩
  have HM := hide hM
  have HF := hide (HF1.out.trans hF)
  clear hM hF
  go_wp2_with fail
  go_end0
  exact ⟨rfl, X', vs', wk', HM.out, HF.out⟩

section
variable {w : World} {X : Nat → Prop} {R S W nS nW : Nat} {vc vs : Value} {wk : Int} {cg cc : Nat → Nat} {wv : Int → Value} {B : Bd}
theorem getD_set {A : List (List Int)} {i j : Nat} {c' : List Int} (hi : i < A.length) : (A.set i c').getD j [] = if j = i then c' else A.getD j [] := by
  simp only [List.getD, List.getElem?_set]
  by_cases e : i = j
  · subst e; simp [hi]
  · have e' : ¬ j = i := fun h => e h.symm
    simp [e, e']
/-- The numbers of a clause stand otherwise, and nothing else has changed. -/
theorem Mb.setCl {w1 : World} {i : Nat} {c' : List Int} (h : Mb w X R S W nS nW vc vs wk cg cc wv B) (hi : i < B.cl.length) (hlen : c'.length = (B.cl.getD i []).length) (hs : w.heap.size ≤ w1.heap.size) (hb : ∀ g, g ≠ cg i → w1.heap[g]? = w.heap[g]?)
    (hrow : w1.ownsRow 0 3 1 (.slice (some ⟨cg i, 0, none⟩) c'.length (cc i)) c'.length (c'.map (Value.int .i64))) : Mb w1 X R S W nS nW vc vs wk cg cc wv { B with cl := B.cl.set i c' } := by
  have hso := h.so
  have hwm := h.wm
  obtain ⟨D, h1, _⟩ := hso
  obtain ⟨D2, h2, _⟩ := hwm
  have hci := h.cl i hi
  have hne : ∀ {g : Nat}, g = cg i → Value.ownBlock (.slice (some ⟨cg i, 0, none⟩) (B.cl.getD i []).length (cc i)) = some g := fun e => by rw [e]; rfl
  have row : ∀ {e : TypeId} {sz : Nat} {v : Value} {m : Nat} {xs : List Value}, e ≠ 3 → w.ownsRow 0 e sz v m xs → w1.ownsRow 0 e sz v m xs := fun he hr => row_same hr fun g hg => hb g fun e' => rows_ne hr hci he hg (hne e')
  have hl : (B.cl.set i c').length = B.cl.length := by simp
  refine ⟨(hb R fun e => row_ne hci h.bd (by decide) (hne e)).trans h.bd, h.so.same (hb S fun e => row_nmap hci h1 (hne e)), h.wm.same (hb W fun e => row_nmap hci h2 (hne e)), row (by decide) h.st, ?_, fun j hj => ?_, fun x => row (by decide) (h.wl x), fun a b ha hb' => h.cn a b (by simpa using ha) (by simpa using hb'), h.wn, h.sw, h.xr, h.xs, h.xw, h.xt, h.xc, fun j hj => h.xi j (by simpa using hj), h.xl, fun g hg => Nat.lt_of_lt_of_le (h.xb g hg) hs⟩
  · simp only [hl]
    have : (List.range B.cl.length).map (fun j => (Value.slice (some ⟨cg j, 0, none⟩) ((B.cl.set i c').getD j []).length (cc j))) = (List.range B.cl.length).map (fun j => (Value.slice (some ⟨cg j, 0, none⟩) (B.cl.getD j []).length (cc j))) := by
      refine List.map_congr_left fun j _ => ?_
      rw [getD_set hi]
      split
      · rename_i e; rw [e, hlen]
      · rfl
    rw [this]
    exact row (by decide) h.rw
  · simp only [hl] at hj
    simp only [getD_set hi]
    split
    · rename_i e; rw [e]; exact hrow
    · rename_i e
      refine row_same (h.cl j hj) fun g hg => hb g fun e' => e ?_
      simp only [Value.ownBlock, Option.some.injEq] at hg
      exact h.cn j i hj hi (hg.trans e')
theorem Mb.ints (h : Mb w X R S W nS nW vc vs wk cg cc wv B) {i : Nat} (hi : i < B.cl.length) {j : Nat} (hj : j < (B.cl.getD i []).length) : w.cell? ⟨cg i, j, none⟩ = some (.int .i64 (B.cl.getD i [])[j]) := by
  have := (h.cl i hi).cellAt j (by omega)
  rw [List.getElem?_map, List.getElem?_eq_getElem hj] at this
  exact this
theorem Mb.fzc (h : Mb w X R S W nS nW vc vs wk cg cc wv B) {i : Nat} (hi : i < B.cl.length) (j : Nat) : w.frozen? ⟨cg i, j, none⟩ = false := by
  rcases (h.cl i hi).2 with ⟨e, _⟩ | ⟨g, cap, cur, e, _, hg, _⟩
  · cases e
  · injection e with e
    injection e with e
    injection e with e
    subst e
    exact Lib.frozen_of_heap hg j
/-- One of a clause's numbers is written over. -/
theorem Mb.put1 (h : Mb w X R S W nS nW vc vs wk cg cc wv B) {i : Nat} (hi : i < B.cl.length) (j : Nat) (x : Int) : Mb (w.setCell ⟨cg i, j, none⟩ (.int .i64 x)) X R S W nS nW vc vs wk cg cc wv { B with cl := B.cl.set i ((B.cl.getD i []).set j x) } := by
  refine h.setCl hi (by simp) ((Below.refl 0 w).setCell (Nat.zero_le _) _).size (fun g hg => Below.heap_setCell _ _ _ _ hg) ?_
  rcases h.cl i hi with ⟨hl, hor⟩
  refine ⟨by simp, ?_⟩
  rcases hor with ⟨e, _⟩ | ⟨g, cap, cur, e, hb, hg, hn, hm, hs, ht⟩
  · cases e
  · injection e with e1 e2 e3
    injection e1 with e1
    injection e1 with e1
    subst e1 e3
    refine .inr ⟨cg i, cc i, cur.setIfInBounds j (.int .i64 x), by simp, Nat.zero_le _, heap_setCell_same _ _ _ _ _ _ hg, by simpa using hn, hm, by simpa using hs, ?_⟩
    rw [List.length_set, Array.toList_setIfInBounds, List.take_set, ht, List.map_set]
end
end Go.Proofs.YtkinmangilbeeaaGreatDoor.Pf
