/- text.Parse. -/
import Derived.Test.YtabnimgpednhjaaDoorKcM
namespace Go.Proofs.YtabnimgpednhjaaDoor
open Go.RowKit Go.Deep
set_option maxRecDepth 100000

/-- A model that lies in memory, as a value. -/
def IsModel (w : World) (v : Value) (m : Md) : Prop := ∃ a0 a1 a2 a3 a4 c0 c1 c2 c3 c4, v = Ev.Mv.val ⟨a0, c0, a1, m.is.length, c1, a2, m.xs.length, c2, a3, m.bs.length, c3, a4, m.hs.length, c4⟩ m.ns.length ∧ Ev.NodesAt w a0 m.ns ∧ Ev.PairsAt w a1 m.is ∧ Ev.PairsAt w a2 m.xs ∧ Ev.IntsAt w a3 m.bs ∧ Ev.IntsAt w a4 m.hs
theorem noModel (w : World) : IsModel w (.agg #[.slice none 0 0, .slice none 0 0, .slice none 0 0, .slice none 0 0, .slice none 0 0]) Md0 :=
  ⟨none, none, none, none, none, 0, 0, 0, 0, 0, rfl, fun h => absurd h (by simp [Md0]), fun h => absurd h (by simp [Md0]), fun h => absurd h (by simp [Md0]), fun h => absurd h (by simp [Md0]), fun h => absurd h (by simp [Md0])⟩
def ParseOut (s : ByteArray) (w : World) (e : Ending) (w' : World) : Prop := ∃ v, e = .returned (.tuple #[v, .int .i64 (parseR s).2.1, .int .i64 (parseR s).2.2]) ∧ IsModel w' v (parseR s).1 ∧ Below w.heap.size w w'

set_option maxHeartbeats 2000000 in
theorem parse_long (s : ByteArray) (h : 10000 < s.size) (w : World) : Calls Tryd.prog 6 #[.string s] w (ParseOut s w) := by
  have e : parseR s = (Md0, 0, 2) := by simp [parseR, h]
  unfold ParseOut
  rw [e]
  go_enter Tryd.func6, Tryd.ntmps6
  go_wp2
  exact bodyPost_ret (v := .tuple #[.agg #[.slice none 0 0, .slice none 0 0, .slice none 0 0, .slice none 0 0, .slice none 0 0], .int .i64 0, .int .i64 2]) (by simp [results, Tryd.results6, go_sem]) rfl ⟨_, rfl, noModel _, bal (Below.refl _ _) _⟩

def Loop (s : ByteArray) (w : World) (wr : World) (cur : ByteArray) (k : Nat) (m : Md) : Prop :=
  Holds wr (w.heap.size + 1) (w.heap.size + 1) m ∧ Below (w.heap.size + 1) (w.alloc (.cells #[.slice none 0 0, .slice none 0 0, .slice none 0 0, .slice none 0 0, .slice none 0 0] 26)) wr ∧ readM m cur k = readM Md0 s 1 ∧ m.within (k - 1) ∧ 1 ≤ k ∧ (k - 1) + cur.size ≤ s.size

def strL (v : Value) : Nat := match v with | .string b => b.size | _ => 0
theorem ba_nil {b : ByteArray} (h : b.size = 0) : b = ⟨#[]⟩ := ByteArray.ext (Array.size_eq_zero_iff.1 h)
theorem Rm.other {w : World} {base R : Nat} {v0 v1 v2 v3 v4 : Value} {ns : List Ev.Nd} {is xs : List (Int × Int)} {bs hs : List Int} {last : Nat} (h : Rm w base R v0 v1 v2 v3 v4 ns is xs bs hs last) {b : Nat} (hb : b < base) (o : Nat) (u : Value) : Rm (w.setCell ⟨b, o, none⟩ u) base R v0 v1 v2 v3 v4 ns is xs bs hs last := by
  have hR := h.hR
  have key : ∀ {e : TypeId} {sz n : Nat} {v : Value} {l : List Value}, w.ownsRow base e sz v n l → (w.setCell ⟨b, o, none⟩ u).ownsRow base e sz v n l := fun hr => ownsRow_setCell_other hr (fun e => by have h2 : base ≤ b := (hr.lt _ e).1; omega) u
  exact ⟨(heap_setCell_other _ _ _ _ (show R ≠ b by omega)).trans h.c, key h.r0, key h.r1, key h.r2, key h.r3, key h.r4, h.a12, h.a34, hR⟩
theorem Rm.parts {w : World} {base R : Nat} {v0 v1 v2 v3 v4 : Value} {ns : List Ev.Nd} {is xs : List (Int × Int)} {bs hs : List Int} {last : Nat} (h : Rm w base R v0 v1 v2 v3 v4 ns is xs bs hs last) :
    ∃ a0 a1 a2 a3 a4 c0 c1 c2 c3 c4, v0 = .slice a0 ns.length c0 ∧ v1 = .slice a1 is.length c1 ∧ v2 = .slice a2 xs.length c2 ∧ v3 = .slice a3 bs.length c3 ∧ v4 = .slice a4 hs.length c4 ∧ Ev.NodesAt w a0 ns ∧ Ev.PairsAt w a1 is ∧ Ev.PairsAt w a2 xs ∧ Ev.IntsAt w a3 bs ∧ Ev.IntsAt w a4 hs := by
  obtain ⟨a0, c0, e0, n0⟩ := nodes_of h.r0
  obtain ⟨a1, c1, e1, n1⟩ := pairs_of h.r1
  obtain ⟨a2, c2, e2, n2⟩ := pairs_of h.r2
  obtain ⟨a3, c3, e3, n3⟩ := Ev.owns_ints h.r3
  obtain ⟨a4, c4, e4, n4⟩ := Ev.owns_ints h.r4
  exact ⟨a0, a1, a2, a3, a4, c0, c1, c2, c3, c4, e0, e1, e2, e3, e4, n0, n1, n2, n3, n4⟩
theorem Rm.model {w : World} {base R : Nat} {v0 v1 v2 v3 v4 : Value} {m : Md} {last : Nat} (h : Rm w base R v0 v1 v2 v3 v4 m.ns m.is m.xs m.bs m.hs last) : IsModel w (.agg #[v0, v1, v2, v3, v4]) m := by
  obtain ⟨a0, a1, a2, a3, a4, c0, c1, c2, c3, c4, rfl, rfl, rfl, rfl, rfl, h0, h1, h2, h3, h4⟩ := h.parts
  exact ⟨a0, a1, a2, a3, a4, c0, c1, c2, c3, c4, rfl, h0, h1, h2, h3, h4⟩

abbrev nilM : Array Value := #[.slice none 0 0, .slice none 0 0, .slice none 0 0, .slice none 0 0, .slice none 0 0]
set_option maxHeartbeats 8000000 in
theorem parse_any (s : ByteArray) (hs : s.size ≤ 10000) (mx : Int) (w : World) (hm : w.cell? ⟨2, 0, none⟩ = some (.int .i64 mx)) (hSW : SW w) (hKW : KW w) : Calls Tryd.prog 6 #[.string s] w (ParseOut s w) := by
  have hn : ¬ (10000 : Int) < (s.size : Int) := by omega
  have HS := hide hs
  have HM := hide hm
  have HSW := hide hSW
  have HKW := hide hKW
  clear hs hm hSW hKW
  go_enter Tryd.func6, Tryd.ntmps6
  go_wp2
  go_loopw [0, 6] (fun c i wr => ∃ (cur : ByteArray) (k : Nat) (m : Md), c = .string cur ∧ i = .int .i64 k ∧ Hid (Loop s w wr cur k m)) (fun c _ _ => strL c)
  case atStart =>
    refine ⟨s, 1, Md0, rfl, rfl, ?_, Below.alloc (Below.refl _ _) (by simp) _, rfl, ⟨Nat.zero_le _, Nat.zero_le _, Nat.zero_le _, Nat.zero_le _, Nat.zero_le _⟩, Nat.le_refl _, by omega⟩
    refine ⟨.slice none 0 0, .slice none 0 0, .slice none 0 0, .slice none 0 0, .slice none 0 0, (by rw [show w.heap.size + 1 = (w.alloc (.cells nilM 26)).heap.size by simp]; exact heap_alloc_new _ _), World.ownsRow_nil _ _ _ _, World.ownsRow_nil _ _ _ _, World.ownsRow_nil _ _ _ _, World.ownsRow_nil _ _ _ _, World.ownsRow_nil _ _ _ _, (fun k h => by cases h), (fun k h => by cases h), Nat.le_refl _⟩
  case round =>
    obtain ⟨cur, k, m, rfl, rfl, HL⟩ := hrel
    have HB := hide (show Below w.heap.size w wr from (bal (Below.refl _ _) _).trans (HL.out.2.1.mono (Nat.le_succ _)))
    have hsz : w.heap.size + 1 ≤ wr.heap.size := by have := HL.out.2.1.size; simpa using this
    have g0 : wr.heap[w.heap.size]? = some (.cells nilM 26 (0, 0)) := (HL.out.2.1.block _ (by simp)).trans (heap_alloc_new w _)
    by_cases h0 : cur.size = 0
    · obtain rfl := ba_nil h0
      obtain ⟨hH, hB, hR, hW, hk1, hk2⟩ := HL.out
      obtain ⟨v0, v1, v2, v3, v4, hM⟩ := hH
      obtain ⟨a0, a1, a2, a3, a4, c0, c1, c2, c3, c4, rfl, rfl, rfl, rfl, rfl, n0, n1, n2, n3, n4⟩ := hM.parts
      have hfew := hW.few (by have := HS.out; omega)
      obtain ⟨f0, f1, f2, f3, f4⟩ := hfew
      have HRD : Hid (readM Md0 s 1 = .ok m) := by rw [Hid, ← hR]; exact readM_nil rfl
      have HCK := hide (Ev.check_any a0 a1 a2 a3 a4 c0 c1 c2 c3 c4 m.ns m.is m.xs m.bs m.hs (by unfold maxLen; omega) (by omega) (by omega) (by unfold maxLen; omega) (by unfold maxLen; omega) wr n0 n1 n2 n3 n4)
      unfold Ev.Mv.val at HCK
      have r0 : wr.cell? ⟨w.heap.size + 1, 0, none⟩ = some (.slice a0 m.ns.length c0) := by rw [Lib.cell_of_heap hM.c]; rfl
      have r1 : wr.cell? ⟨w.heap.size + 1, 1, none⟩ = some (.slice a1 m.is.length c1) := by rw [Lib.cell_of_heap hM.c]; rfl
      have r2 : wr.cell? ⟨w.heap.size + 1, 2, none⟩ = some (.slice a2 m.xs.length c2) := by rw [Lib.cell_of_heap hM.c]; rfl
      have r3 : wr.cell? ⟨w.heap.size + 1, 3, none⟩ = some (.slice a3 m.bs.length c3) := by rw [Lib.cell_of_heap hM.c]; rfl
      have r4 : wr.cell? ⟨w.heap.size + 1, 4, none⟩ = some (.slice a4 m.hs.length c4) := by rw [Lib.cell_of_heap hM.c]; rfl
      have HMM := hide hM
      have HG := hide g0
      have HPR : Hid (parseR s = if Ev.checkE m.ns m.is m.xs m.bs m.hs = 0 then (m, 0, 0) else (Md0, 0, Ev.checkE m.ns m.is m.xs m.bs m.hs)) := by
        have h1 := HS.out
        unfold parseR
        rw [if_neg (by omega), HRD.out]
        exact rfl
      generalize Ev.checkE m.ns m.is m.xs m.bs m.hs = ce at *
      clear hM n0 n1 n2 n3 n4 hR hW hk2 HRD HL hB g0
      go_wp2_with fail
      refine HCK.out.mono ?_
      rintro e w1 ⟨rfl, hb1⟩
      have HB1 := hide (belowAl HB.out hb1)
      have HM1 := hide (HMM.out.later hb1)
      have g1 := (hb1.block _ (by omega)).trans HG.out
      replace r0 := cell_later hb1 r0
      replace r1 := cell_later hb1 r1
      replace r2 := cell_later hb1 r2
      replace r3 := cell_later hb1 r3
      replace r4 := cell_later hb1 r4
      clear hb1 HMM HB HCK HG
      have d0 : w1.cell? ⟨w.heap.size, 0, none⟩ = some (.slice none 0 0) := by rw [Lib.cell_of_heap g1]; rfl
      have z0 : w1.frozen? ⟨w.heap.size, 0, none⟩ = false := Lib.frozen_of_heap g1 0
      have d1 : w1.cell? ⟨w.heap.size, 1, none⟩ = some (.slice none 0 0) := by rw [Lib.cell_of_heap g1]; rfl
      have z1 : w1.frozen? ⟨w.heap.size, 1, none⟩ = false := Lib.frozen_of_heap g1 1
      have d2 : w1.cell? ⟨w.heap.size, 2, none⟩ = some (.slice none 0 0) := by rw [Lib.cell_of_heap g1]; rfl
      have z2 : w1.frozen? ⟨w.heap.size, 2, none⟩ = false := Lib.frozen_of_heap g1 2
      have d3 : w1.cell? ⟨w.heap.size, 3, none⟩ = some (.slice none 0 0) := by rw [Lib.cell_of_heap g1]; rfl
      have z3 : w1.frozen? ⟨w.heap.size, 3, none⟩ = false := Lib.frozen_of_heap g1 3
      have d4 : w1.cell? ⟨w.heap.size, 4, none⟩ = some (.slice none 0 0) := by rw [Lib.cell_of_heap g1]; rfl
      have z4 : w1.frozen? ⟨w.heap.size, 4, none⟩ = false := Lib.frozen_of_heap g1 4
      clear g1
      by_cases hce : ce = 0
      · subst hce
        have HPR2 : Hid (parseR s = (m, 0, 0)) := by rw [Hid, HPR.out, if_pos rfl]
        clear HPR
        go_wp2
        refine bodyPost_ret (v := .tuple #[.agg #[.slice a0 m.ns.length c0, .slice a1 m.is.length c1, .slice a2 m.xs.length c2, .slice a3 m.bs.length c3, .slice a4 m.hs.length c4], .int .i64 0, .int .i64 0]) (by simp [results, Tryd.results6, go_sem, d0, d1, d2, d3, d4]) rfl ⟨_, by rw [HPR2.out]; rfl, ?_, (((((HB1.out.setCell (by simp) _).setCell (by simp) _).setCell (by simp) _).setCell (by simp) _).setCell (by simp) _)⟩
        rw [HPR2.out]
        exact ((((((HM1.out.other (Nat.lt_succ_self _) _ _)).other (Nat.lt_succ_self _) _ _).other (Nat.lt_succ_self _) _ _).other (Nat.lt_succ_self _) _ _).other (Nat.lt_succ_self _) _ _).model
      · have hne : (ce != 0) = true := by simpa using hce
        have HPR2 : Hid (parseR s = (Md0, 0, ce)) := by rw [Hid, HPR.out, if_neg hce]
        clear HPR
        go_wp2
        refine bodyPost_ret (v := .tuple #[.agg nilM, .int .i64 0, .int .i64 ce]) (by simp [results, Tryd.results6, go_sem, d0, d1, d2, d3, d4]) rfl ⟨_, by rw [HPR2.out]; rfl, ?_, (((((HB1.out.setCell (by simp) _).setCell (by simp) _).setCell (by simp) _).setCell (by simp) _).setCell (by simp) _)⟩
        rw [HPR2.out]
        exact noModel _
    · have hq : (cur.toList == []) = false := by
        rw [beq_eq_false_iff_ne]
        intro e
        rw [ByteArray.toList_eq] at e
        apply h0
        rw [Lib.size_eq, e]
        rfl
      have hd : ¬ cur.toList = [] := by simpa using hq
      have hq2 : (cur.toList != []) = true := by simpa using hd
      have HC := hide (next_any cur (by have := HS.out; have := HL.out.2.2.2.2.2; omega) mx wr (cell_later HB.out HM.out))
      have HG := hide g0
      clear g0
      go_wp2_with fail
      refine HC.out.mono ?_
      rintro e w1 ⟨p, rfl, hst, hb1⟩
      have HB1 := hide (belowAl HB.out hb1)
      have HWL := hide (count_size (lineOf cur))
      have HLS := hide (lineOf_size cur)
      have HW1 := hide (words_pos (lineOf cur))
      have hsz1 := hb1.size
      have g1 := (hb1.block _ (by omega)).trans HG.out
      have d0 : w1.cell? ⟨w.heap.size, 0, none⟩ = some (.slice none 0 0) := by rw [Lib.cell_of_heap g1]; rfl
      have z0 : w1.frozen? ⟨w.heap.size, 0, none⟩ = false := Lib.frozen_of_heap g1 0
      have d1 : w1.cell? ⟨w.heap.size, 1, none⟩ = some (.slice none 0 0) := by rw [Lib.cell_of_heap g1]; rfl
      have z1 : w1.frozen? ⟨w.heap.size, 1, none⟩ = false := Lib.frozen_of_heap g1 1
      have d2 : w1.cell? ⟨w.heap.size, 2, none⟩ = some (.slice none 0 0) := by rw [Lib.cell_of_heap g1]; rfl
      have z2 : w1.frozen? ⟨w.heap.size, 2, none⟩ = false := Lib.frozen_of_heap g1 2
      have d3 : w1.cell? ⟨w.heap.size, 3, none⟩ = some (.slice none 0 0) := by rw [Lib.cell_of_heap g1]; rfl
      have z3 : w1.frozen? ⟨w.heap.size, 3, none⟩ = false := Lib.frozen_of_heap g1 3
      have d4 : w1.cell? ⟨w.heap.size, 4, none⟩ = some (.slice none 0 0) := by rw [Lib.cell_of_heap g1]; rfl
      have z4 : w1.frozen? ⟨w.heap.size, 4, none⟩ = false := Lib.frozen_of_heap g1 4
      obtain ⟨⟨v0, v1, v2, v3, v4, hM⟩, hB, hR, hW, hk1, hk2⟩ := HL.out
      have HM1 := hide (show Holds w1 (w.heap.size + 1) (w.heap.size + 1) m from ⟨v0, v1, v2, v3, v4, hM.later hb1⟩)
      have HBB := hide (hB.trans (hb1.mono hsz))
      have hfew := hide (hW.few (by have := HS.out; omega))
      have HR := hide hR
      have H0 := hide h0
      have HW := hide hW
      clear hR hW hM hB hq hd h0 HL HC HB HG hb1
      have HG1 := hide g1
      clear g1
      by_cases he : endsOf cur = true
      · rw [he]
        have HN1 : Hid (m.line (wordsOf (lineOf cur)) = none → parseR s = (Md0, k, 1)) := fun hl => by
          have h1 := HS.out
          rw [parseR, if_neg (by omega), ← HR.out, readM_none H0.out he hl]
        have HN2 : Hid (∀ m', m.line (wordsOf (lineOf cur)) = some m' → readM m' (restOf cur) (k + 1) = readM Md0 s 1) := fun m' hl => by rw [← HR.out, readM_some H0.out he hl]
        have HRS := hide (rest_size he)
        have HLC := hide (rline_any (w.heap.size + 1) (w.heap.size + 1) m hfew.out p (wordsOf (lineOf cur)) HW1.out (by have := HS.out; have := HWL.out; have := HLS.out; omega) w1 (by omega) (HSW.out.later HB1.out) (HKW.out.later HB1.out) hst HM1.out)
        have HLW := hide (fun (m' : Md) (h : m.line (wordsOf (lineOf cur)) = some m') => Md.line_within h HW.out)
        clear HR H0 he hst HWL HLS HW1
        generalize wordsOf (lineOf cur) = ws at *
        generalize restOf cur = rest at *
        go_wp2_with fail
        refine HLC.out.mono ?_
        unfold LineOut
        rintro e w2 ⟨rfl, hb2, hH2⟩
        have HB2 := hide (show Below w.heap.size w w2 from HB1.out.trans (hb2.mono (Nat.le_succ _)))
        have HBB2 := hide (HBB.out.trans hb2)
        have g2 := (hb2.block _ (Nat.lt_succ_self _)).trans HG1.out
        clear d0 d1 d2 d3 d4 z0 z1 z2 z3 z4
        have d0 : w2.cell? ⟨w.heap.size, 0, none⟩ = some (.slice none 0 0) := by rw [Lib.cell_of_heap g2]; rfl
        have z0 : w2.frozen? ⟨w.heap.size, 0, none⟩ = false := Lib.frozen_of_heap g2 0
        have d1 : w2.cell? ⟨w.heap.size, 1, none⟩ = some (.slice none 0 0) := by rw [Lib.cell_of_heap g2]; rfl
        have z1 : w2.frozen? ⟨w.heap.size, 1, none⟩ = false := Lib.frozen_of_heap g2 1
        have d2 : w2.cell? ⟨w.heap.size, 2, none⟩ = some (.slice none 0 0) := by rw [Lib.cell_of_heap g2]; rfl
        have z2 : w2.frozen? ⟨w.heap.size, 2, none⟩ = false := Lib.frozen_of_heap g2 2
        have d3 : w2.cell? ⟨w.heap.size, 3, none⟩ = some (.slice none 0 0) := by rw [Lib.cell_of_heap g2]; rfl
        have z3 : w2.frozen? ⟨w.heap.size, 3, none⟩ = false := Lib.frozen_of_heap g2 3
        have d4 : w2.cell? ⟨w.heap.size, 4, none⟩ = some (.slice none 0 0) := by rw [Lib.cell_of_heap g2]; rfl
        have z4 : w2.frozen? ⟨w.heap.size, 4, none⟩ = false := Lib.frozen_of_heap g2 4
        have HH2 := hide hH2
        clear hb2 hH2 g2 HLC HBB HB1 HG1 HM1
        cases hln : m.line ws with
        | none =>
          have HP := hide (HN1.out hln)
          clear HN1 HN2 HLW HH2 hln
          simp only [Option.isSome_none]
          go_wp2
          refine bodyPost_ret (v := .tuple #[.agg nilM, .int .i64 k, .int .i64 1]) (by simp [results, Tryd.results6, go_sem, d0, d1, d2, d3, d4]) rfl ⟨_, by rw [HP.out], ?_, (((((HB2.out.setCell (by simp) _).setCell (by simp) _).setCell (by simp) _).setCell (by simp) _).setCell (by simp) _)⟩
          rw [HP.out]
          exact noModel _
        | some m' =>
          have HP := hide (HN2.out m' hln)
          have HLW2 := hide (HLW.out m' hln)
          have HH3 := hide (HH2.out m' hln)
          clear HN1 HN2 HLW HH2 hln
          simp only [Option.isSome_some]
          go_wp2
          go_roundw
          case rel => exact ⟨rest, k + 1, m', rfl, by go_num, HH3.out, HBB2.out, HP.out, by have h := HLW2.out; rw [show k - 1 + 1 = k + 1 - 1 by omega] at h; exact h, by omega, by have := HRS.out; omega⟩
          case measure => simp [strL]; exact HRS.out
      · have HUN2 : Hid (parseR s = (Md0, k, 1)) := by
          have h1 := HS.out
          rw [Hid, parseR, if_neg (by omega), ← HR.out, readM_no H0.out (by simpa using he)]
        have he2 : endsOf cur = false := by simpa using he
        rw [he2]
        go_wp2
        refine bodyPost_ret (v := .tuple #[.agg nilM, .int .i64 k, .int .i64 1]) (by simp [results, Tryd.results6, go_sem, d0, d1, d2, d3, d4]) rfl ⟨_, by rw [HUN2.out], ?_, (((((HB1.out.setCell (by simp) _).setCell (by simp) _).setCell (by simp) _).setCell (by simp) _).setCell (by simp) _)⟩
        rw [HUN2.out]
        exact noModel _
end Go.Proofs.YtabnimgpednhjaaDoor
