/- Are two traces the same? -/
import Derived.Test.YtagaemlgompggaaGreatDoorHtM
import Derived.Test.YtagaemlgompggaaGreatDoorHy
namespace Go.Proofs.YtagaemlgompggaaGreatDoor
open Go.RowKit
set_option maxRecDepth 100000

theorem sameI (p q : Option Addr) (cp cq : Nat) (l r : List Int) (hl : l.length ≤ maxLen) (hr : r.length ≤ maxLen) (w : World) (hP : IntsAt w p l) (hQ : IntsAt w q r) :
    Calls Tryz.prog 22 #[.slice p l.length cp, .slice q r.length cq] w fun e w' => e = .returned (.bool (decide (l = r))) ∧ Below w.heap.size w w' := Ev.sameInts_any p q cp cq l r hl hr w hP hQ

set_option maxHeartbeats 4000000 in
theorem sameLists_any (p q : Option Addr) (cp cq : Nat) (l r : List Row) (hl : l.length ≤ 9000000000000000000) (hr : r.length ≤ 9000000000000000000) (hwl : ∀ x ∈ l, x.ns.length ≤ maxLen) (hwr : ∀ x ∈ r, x.ns.length ≤ maxLen) (w : World) (hP : RowsAt w p l) (hQ : RowsAt w q r) (hI : InAt w l) (hJ : InAt w r) :
    Calls Tryz.prog 23 #[.slice p l.length cp, .slice q r.length cq] w fun e w' => e = .returned (.bool (decide (l.map Row.ns = r.map Row.ns))) ∧ Below w.heap.size w w' := by
  have HP := hide hP
  have HQ := hide hQ
  have HI := hide hI
  have HJ := hide hJ
  have HWL := hide hwl
  have HWR := hide hwr
  have HS := hide (show decide (l.map Row.ns = r.map Row.ns) = decide (l.map Row.ns = r.map Row.ns) from rfl)
  generalize hR : decide (l.map Row.ns = r.map Row.ns) = R at *
  have HR := hide hR
  clear hP hQ hI hJ hwl hwr hR HS
  by_cases hlen : l.length = r.length
  · have hne : ((l.length : Int) != (r.length : Int)) = false := by simp [hlen]
    have HL := hide hlen
    clear hlen
    go_enter Tryz.func23, Tryz.ntmps23
    go_wp2
    go_loopw [5] (fun i wr => ∃ k : Nat, k ≤ l.length ∧ i = .int .i64 k ∧ Hid (∀ i (hi : i < l.length) (hj : i < r.length), i < k → l[i].ns = r[i].ns) ∧ Hid (Below w.heap.size w wr)) (fun i _ => l.length - (intOf i).toNat)
    case atStart => exact ⟨0, Nat.zero_le _, rfl, fun i hi hj h => by omega, Below.refl _ _⟩
    case round =>
      obtain ⟨k, hk, rfl, hno, HB⟩ := hrel
      by_cases hlt : k < l.length
      · have hlt2 : k < r.length := by have := HL.out; omega
        obtain ⟨b1, o1, hp1, hc1⟩ := (HP.out.later HB.out) (by omega)
        obtain ⟨b2, o2, hp2, hc2⟩ := (HQ.out.later HB.out) (by omega)
        subst hp1
        subst hp2
        have c1 := hc1 k hlt
        have c2 := hc2 k hlt2
        have hki : (k : Int) < (l.length : Int) := by omega
        have hkj : (k : Int) < (r.length : Int) := by omega
        have hk0 : (0 : Int) ≤ (k : Int) := by omega
        have HNN : Hid (l[k].ns = r[k].ns → ∀ i (hi : i < l.length) (hj : i < r.length), i < k + 1 → l[i].ns = r[i].ns) := by
          intro he i hi hj h
          rcases Nat.lt_succ_iff_lt_or_eq.1 h with h1 | rfl
          · exact hno.out i hi hj h1
          · exact he
        have HX : Hid (l[k].ns ≠ r[k].ns → R = false) := by
          intro hne
          rw [← HR.out, decide_eq_false_iff_not]
          intro e
          apply hne
          have e1 : (l.map Row.ns)[k]? = (r.map Row.ns)[k]? := by rw [e]
          rw [List.getElem?_map, List.getElem?_map, List.getElem?_eq_getElem hlt, List.getElem?_eq_getElem hlt2] at e1
          simpa using e1
        have w1 := HWL.out l[k] (List.getElem_mem hlt)
        have w2 := HWR.out r[k] (List.getElem_mem hlt2)
        have HI1 := hide (fun (w' : World) (hb : Below w.heap.size w w') => ((HI.out.later hb) l[k] (List.getElem_mem hlt)).1)
        have HI2 := hide (fun (w' : World) (hb : Below w.heap.size w w') => ((HJ.out.later hb) r[k] (List.getElem_mem hlt2)).1)
        clear hc1 hc2 hno
        generalize l[k] = x at *
        generalize r[k] = y at *
        obtain ⟨xa, xn, xc⟩ := x
        obtain ⟨ya, yn, yc⟩ := y
        unfold Row.v at c1 c2
        simp only at *
        have hbd : Below wr.heap.size wr wr.drew := (Below.refl _ wr).drew
        have HC := hide (sameI xa ya xc yc xn yn w1 w2 wr.drew (HI1.out _ (belowAl HB.out hbd)) (HI2.out _ (belowAl HB.out hbd)))
        by_cases hxy : xn = yn
        · have HK := hide (HNN.out hxy)
          rw [decide_eq_true hxy] at HC
          clear HNN HX hxy
          go_wp2
          go_region_held3 (fun w' => w'.cell? ⟨b1, o1 + k, none⟩ = some (.slice xa xn.length xc) ∧ w'.cell? ⟨b2, o2 + k, none⟩ = some (.slice ya yn.length yc))
            (first | exact ⟨c1, c2⟩ | exact ⟨cell_later hb2 c1, cell_later hb2 c2⟩ | go_keep)
            ((go_at_call 22; refine HC.out.mono ?_; rintro e w2' ⟨rfl, hb2⟩))
          have HB2 := hide (belowAl HB.out (belowAl hbd hb2))
          clear hb2 hbd HC c1 c2
          go_wp2
          go_roundw
          case rel => exact ⟨k + 1, by omega, by go_num, HK, HB2⟩
          case measure => simp [intOf]; omega
        · have HK := hide (HX.out hxy)
          rw [decide_eq_false hxy] at HC
          clear HNN HX hxy
          go_wp2
          go_region_held3 (fun w' => w'.cell? ⟨b1, o1 + k, none⟩ = some (.slice xa xn.length xc) ∧ w'.cell? ⟨b2, o2 + k, none⟩ = some (.slice ya yn.length yc))
            (first | exact ⟨c1, c2⟩ | exact ⟨cell_later hb2 c1, cell_later hb2 c2⟩ | go_keep)
            ((go_at_call 22; refine HC.out.mono ?_; rintro e w2' ⟨rfl, hb2⟩))
          have HB2 := hide (belowAl HB.out (belowAl hbd hb2))
          clear hb2 hbd HC c1 c2
          go_wp2
          go_ret
          exact ⟨ret_bool HK.out.symm, HB2.out⟩
      · have HK : Hid (R = true) := by
          rw [Hid, ← HR.out, decide_eq_true_iff]
          refine List.ext_getElem (by simp; exact HL.out) fun i hi hj => ?_
          rw [List.getElem_map, List.getElem_map]
          exact hno.out i (by simpa using hi) (by simpa using hj) (by simp at hi; omega)
        have hki : ¬ (k : Int) < (l.length : Int) := by omega
        go_wp2
        go_ret
        exact ⟨ret_bool HK.out.symm, HB.out⟩
  · have hne : ((l.length : Int) != (r.length : Int)) = true := by simp; omega
    have HK : Hid (R = false) := by
      rw [Hid, ← HR.out, decide_eq_false_iff_not]
      intro e
      have := congrArg List.length e
      simp at this
      exact hlen this
    clear hlen
    go_enter Tryz.func23, Tryz.ntmps23
    go_wp2
    go_ret
    exact ⟨ret_bool HK.out.symm, Below.refl _ _⟩
end Go.Proofs.YtagaemlgompggaaGreatDoor

namespace Go.Proofs.YtagaemlgompggaaGreatDoor
open Go.RowKit
set_option maxRecDepth 100000

structure Pu (w0 wr : World) (s : Row) (iv : Value) (rws : List Row) : Prop where
  tr : wr.heap[w0.heap.size]? = some (.cells #[s.v, iv] 25 (0, 0))
  own : wr.ownsRow w0.heap.size 22 1 iv rws.length (rws.map Row.v)
  st : Ints3 wr s
  ins : ∀ r ∈ rws, Ints3 wr r
  bel : Below w0.heap.size w0 wr
theorem Pu.no3 {w0 wr : World} {s : Row} {iv : Value} {rws : List Row} (h : Pu w0 wr s iv rws) : ∀ c fz, wr.heap[w0.heap.size]? ≠ some (.cells c 3 fz) := by
  intro c fz e
  rw [h.tr] at e
  simp at e
theorem Pu.size {w0 wr : World} {s : Row} {iv : Value} {rws : List Row} (h : Pu w0 wr s iv rws) : w0.heap.size + 1 ≤ wr.heap.size := by
  have := (Array.getElem?_eq_some_iff.1 h.tr).1
  omega
theorem Pu.call {w0 wr w1 : World} {s : Row} {iv : Value} {rws : List Row} (h : Pu w0 wr s iv rws) (hb : Below wr.heap.size wr w1) : Pu w0 w1 s iv rws := by
  have hk : Lib.OthersKept 22 (some w0.heap.size) wr w1 := others_of hb (Nat.le_refl _)
  have hsz := h.size
  exact ⟨(hb.block _ (by omega)).trans h.tr, own_below h.own hb, h.st.kept hk h.no3, fun r hr => (h.ins r hr).kept hk h.no3, h.bel.trans (hb.mono (by omega))⟩
theorem Pu.start {w0 wr : World} {s r : Row} {iv : Value} {rws : List Row} (h : Pu w0 wr s iv rws) (hr : Ints3 wr r) : Pu w0 (wr.setCell ⟨w0.heap.size, 0, none⟩ r.v) r iv rws := by
  have hk : Lib.OthersKept 22 (some w0.heap.size) wr (wr.setCell ⟨w0.heap.size, 0, none⟩ r.v) := (Lib.OthersKept.refl 22 (some w0.heap.size) wr).setCell ⟨w0.heap.size, 0, none⟩ rfl _
  refine ⟨?_, ?_, hr.kept hk h.no3, fun q hq => (h.ins q hq).kept hk h.no3, h.bel.setCell (by simp) _⟩
  · rw [heap_setCell_same _ _ _ _ _ _ h.tr]; rfl
  · exact ownsRow_setCell_other h.own (Lib.ownBlock_ne h.own h.tr (by decide)) _
theorem Pu.put {w0 w1 w2 : World} {s r : Row} {iv iv' : Value} {rws : List Row} (h : Pu w0 w1 s iv rws) (hr : Ints3 w1 r) (o : Obj) (hg : (w1.alloc o).grownBy w2 iv.ownBlock) (hown : w2.ownsRow w0.heap.size 22 1 iv' (rws ++ [r]).length ((rws ++ [r]).map Row.v)) :
    Pu w0 (w2.setCell ⟨w0.heap.size, 1, none⟩ iv') s iv' (rws ++ [r]) := by
  have h1 := h.call (bal (Below.refl _ _) o)
  have hk1 : Lib.OthersKept 22 (some w0.heap.size) (w1.alloc o) w2 := (Lib.OthersKept.refl _ _ _).grown hg (own_kind h1.own)
  have hne := Lib.ownBlock_ne h1.own h1.tr (by decide)
  have hsz := h1.size
  have t2 : w2.heap[w0.heap.size]? = some (.cells #[s.v, iv] 25 (0, 0)) := (hg.block _ (by omega) (fun e => hne e.symm)).trans h1.tr
  have hk : Lib.OthersKept 22 (some w0.heap.size) (w1.alloc o) (w2.setCell ⟨w0.heap.size, 1, none⟩ iv') := hk1.setCell ⟨w0.heap.size, 1, none⟩ rfl _
  have hr1 : Ints3 (w1.alloc o) r := hr.kept (b := w0.heap.size) (others_of (bal (Below.refl _ _) o) (Nat.le_refl _)) h.no3
  refine ⟨?_, ?_, h1.st.kept hk h1.no3, fun q hq => ?_, ?_⟩
  · rw [heap_setCell_same _ _ _ _ _ _ t2]; rfl
  · exact ownsRow_setCell_other hown (Lib.ownBlock_ne hown t2 (by decide)) _
  · rcases List.mem_append.1 hq with hq | hq
    · exact (h1.ins q hq).kept hk h1.no3
    · rw [List.mem_singleton.1 hq]; exact hr1.kept hk h1.no3
  · exact (h1.bel.grown hg (by omega) (fun j hj => (h1.own.lt j hj).1)).setCell (by simp) _

/-- A line's words: the numbers behind the first one, so far. -/
def wordsN (ws : List ByteArray) (k : Nat) : List Int := ((ws.take k).drop 1).map fun w => (tellsN w).getD (-1)
theorem wordsN_succ {ws : List ByteArray} {k : Nat} (h0 : 1 ≤ k) (h : k < ws.length) : wordsN ws (k + 1) = wordsN ws k ++ [(tellsN ws[k]).getD (-1)] := by
  unfold wordsN
  rw [List.take_succ_eq_append_getElem h, List.drop_append_of_le_length (by rw [List.length_take]; omega), List.map_append]
  rfl
theorem wordsN_one (ws : List ByteArray) : wordsN ws 1 = [] := by
  unfold wordsN
  rw [List.drop_eq_nil_of_le (by rw [List.length_take]; omega)]
  rfl
theorem wordsN_len (ws : List ByteArray) (k : Nat) : (wordsN ws k).length ≤ k := by
  unfold wordsN
  rw [List.length_map, List.length_drop, List.length_take]
  omega
theorem tells_bd (w : ByteArray) : -1 ≤ (tellsN w).getD (-1) ∧ (tellsN w).getD (-1) ≤ 1000000000 := by
  by_cases hs : noNum w
  · rw [tells_bad hs]; decide
  · rw [tells_good hs]
    split
    · rename_i hd
      have h1 := numN_bd hd
      have h9 : w.size ≤ 9 := by
        apply Classical.byContradiction
        intro e
        exact hs (.inr (.inl (by omega)))
      have := pow9 h9
      simp only [Option.getD_some]
      omega
    · decide
/-- Of a line. -/
def rowW (l : ByteArray) : List Int := wordsN (cutAll l 32) (cutAll l 32).length
def headW (l : ByteArray) : ByteArray := (cutAll l 32).headD ⟨#[]⟩
theorem cut32 (l : ByteArray) : (cutAll l 32).map bl = splitL 32 (bl l) := cut_split l 32
theorem rowW_row (l : ByteArray) : rowW l = rowP (bl l) := by
  unfold rowW rowP wordsN
  rw [← cut32, List.take_length, ← List.map_drop, List.map_map]
  refine List.map_congr_left fun w _ => ?_
  show _ = undig (bl w)
  unfold undig
  rw [mk_bl]
theorem cut32_ne (l : ByteArray) : cutAll l 32 ≠ [] := by unfold cutAll; simp
theorem headW_head (l : ByteArray) : bl (headW l) = headP (bl l) := by
  unfold headW headP
  rw [← cut32]
  cases h : cutAll l 32 with
  | nil => exact absurd h (cut32_ne l)
  | cons a r => rfl
/-- The lines so far: what the trace is. -/
def DoneW (ls : List ByteArray) (k : Nat) (s : List Int) (rs : List (List Int)) : Prop := match k with
  | 0 => s = [] ∧ rs = []
  | k + 1 => ∃ a, ls[0]? = some a ∧ headW a = startB ∧ s = rowW a ∧ rs = ((ls.take (k + 1)).drop 1).map rowW ∧ ∀ z ∈ (ls.take (k + 1)).drop 1, headW z = inB
theorem done_first {ls : List ByteArray} {s : List Int} {rs : List (List Int)} (h : DoneW ls 0 s rs) (hl : 0 < ls.length) (hh : headW ls[0] = startB) : DoneW ls 1 (rowW ls[0]) rs := by
  refine ⟨ls[0], List.getElem?_eq_getElem hl, hh, rfl, ?_, ?_⟩
  · rw [h.2, List.drop_eq_nil_of_le (by rw [List.length_take]; exact Nat.min_le_left _ _)]; rfl
  · rw [List.drop_eq_nil_of_le (by rw [List.length_take]; exact Nat.min_le_left _ _)]
    intro z hz
    cases hz
theorem done_next {ls : List ByteArray} {k : Nat} {s : List Int} {rs : List (List Int)} (h : DoneW ls k s rs) (hk0 : k ≠ 0) (hl : k < ls.length) (hh : headW ls[k] = inB) : DoneW ls (k + 1) s (rs ++ [rowW ls[k]]) := by
  obtain ⟨j, rfl⟩ : ∃ j, k = j + 1 := ⟨k - 1, by omega⟩
  obtain ⟨a, h1, h2, h3, h4, h5⟩ := h
  have e : (ls.take (j + 1 + 1)).drop 1 = (ls.take (j + 1)).drop 1 ++ [ls[j + 1]] := by
    rw [List.take_succ_eq_append_getElem hl, List.drop_append_of_le_length (by rw [List.length_take]; omega)]
  refine ⟨a, h1, h2, h3, ?_, ?_⟩
  · rw [e, List.map_append, ← h4]; rfl
  · rw [e]
    intro z hz
    rcases List.mem_append.1 hz with hz | hz
    · exact h5 z hz
    · rw [List.mem_singleton.1 hz]; exact hh
end Go.Proofs.YtagaemlgompggaaGreatDoor
