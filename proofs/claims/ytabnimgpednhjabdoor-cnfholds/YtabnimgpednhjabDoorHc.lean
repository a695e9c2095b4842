/- Lines: a line is written. -/
import Derived.Test.YtabnimgpednhjabDoorHb
namespace Go.Proofs.YtabnimgpednhjabDoor
open Go.RowKit
set_option maxRecDepth 100000
set_option maxRecDepth 100000

/-- A row of strings, in one block of strings. -/
def StrsAt (w : World) (p : Option Addr) (l : List ByteArray) : Prop := 0 < l.length → ∃ b off c fz, p = some ⟨b, off, none⟩ ∧ w.heap[b]? = some (.cells c 9 fz) ∧ ∀ i (hi : i < l.length), c[off + i]? = some (.string l[i])
theorem StrsAt.cell {w : World} {p : Option Addr} {l : List ByteArray} (h : StrsAt w p l) (h0 : 0 < l.length) : ∃ b off, p = some ⟨b, off, none⟩ ∧ ∀ i (hi : i < l.length), w.cell? ⟨b, off + i, none⟩ = some (.string l[i]) := by
  obtain ⟨b, off, c, fz, h1, h2, h3⟩ := h h0
  refine ⟨b, off, h1, fun i hi => ?_⟩
  rw [Lib.cell_of_heap h2]
  exact h3 i hi
theorem StrsAt.kept {w w' : World} {p : Option Addr} {l : List ByteArray} {b : Nat} (h : StrsAt w p l) (hb : ∀ c fz, w.heap[b]? ≠ some (.cells c 9 fz)) (hk : Lib.OthersKept 5 (some b) w w') : StrsAt w' p l := fun h0 => by
  obtain ⟨g, off, c, fz, h1, h2, h3⟩ := h h0
  refine ⟨g, off, c, fz, h1, hk g _ h2 ?_ ?_, h3⟩
  · rintro e
    cases e
    exact hb _ _ h2
  · rintro c' fz' e
    cases e

/-- The bytes of the first words, with a blank between them. -/
def lineN (ws : List ByteArray) : Nat → List UInt8
  | 0 => []
  | k + 1 => (lineN ws k ++ if k = 0 then [] else [32]) ++ match ws[k]? with | some x => x.data.toList | none => []
theorem lineN_succ {ws : List ByteArray} {k : Nat} (h : k < ws.length) : lineN ws (k + 1) = (lineN ws k ++ if k = 0 then [] else [32]) ++ ws[k].data.toList := by
  simp [lineN, List.getElem?_eq_getElem h]
theorem lineN_mono {ws : List ByteArray} {k n : Nat} (h : k ≤ n) : (lineN ws k).length ≤ (lineN ws n).length := by
  induction n with
  | zero => cases (show k = 0 by omega); exact Nat.le_refl _
  | succ n ih =>
    by_cases e : k = n + 1
    · subst e; exact Nat.le_refl _
    · have := ih (by omega)
      simp only [lineN, List.length_append]
      omega
theorem cells_app (a : List UInt8) (s : ByteArray) : Lib.byteCells a ++ Lib.strCells s = Lib.byteCells (a ++ s.data.toList) := by simp [Lib.byteCells, Lib.strCells]

theorem write_any (B b : Nat) (l : List UInt8) (s : ByteArray) (w : World) (h : Lib.IsBuilder 45 5 B b (Lib.byteCells l) w) (hlen : l.length + s.data.toList.length ≤ 140737488355328) (hBw : B ≤ w.heap.size) :
    Calls Tryd.prog 16 #[.pointer (some ⟨b, 0, none⟩), .string s] w fun e w' => e = .returned (.tuple #[.int .i64 s.size, .nilIface]) ∧ (Lib.IsBuilder 45 5 B b (Lib.byteCells (l ++ s.data.toList)) w' ∧ Below B w w' ∧ Lib.OthersKept 5 (some b) w w') := by
  refine (writeString_any B b (Lib.byteCells l) s w h (by rw [Lib.byteCells_length]; exact hlen) hBw).mono ?_
  rintro e w' ⟨rfl, h1, h2, h3⟩
  rw [cells_app] at h1
  exact ⟨rfl, .inr h1, h2, h3⟩
theorem builder_not {T e : TypeId} {B b : Nat} {bs : List Value} {w : World} (h : Lib.IsBuilder T e B b bs w) (x : TypeId) (hx : T ≠ x) : ∀ c fz, w.heap[b]? ≠ some (.cells c x fz) := by
  intro c fz e
  rcases h with ⟨_, v, hb, _⟩ | ⟨_, v, hb, _⟩ <;>
  · rw [hb] at e
    cases e
    exact hx rfl

set_option maxHeartbeats 2000000 in
set_option maxRecDepth 100000 in
theorem line_any (B b : Nat) (l : List UInt8) (p : Option Addr) (cap : Nat) (ws : List ByteArray) (w : World) (h : Lib.IsBuilder 45 5 B b (Lib.byteCells l) w) (hw : StrsAt w p ws) (hlen : l.length + (lineN ws ws.length).length + 1 ≤ 140737488355328) (hws : ws.length ≤ 1000000) (hBw : B ≤ w.heap.size) :
    Calls Tryd.prog 18 #[.pointer (some ⟨b, 0, none⟩), .slice p ws.length cap] w fun e w' => e = .returned (.tuple #[]) ∧ (Lib.IsBuilder 45 5 B b (Lib.byteCells (l ++ lineN ws ws.length ++ [10])) w' ∧ Below B w w' ∧ Lib.OthersKept 5 (some b) w w') := by
  have HW := hide (fun (w' : World) (hk : Lib.OthersKept 5 (some b) w w') => hw.kept (builder_not h 9 (by decide)) hk)
  have HL := hide hlen
  have HM := hide (fun k (hk : k ≤ ws.length) => lineN_mono (ws := ws) hk)
  have H := hide h
  clear h hw hlen
  go_enter Tryd.func18, Tryd.ntmps18
  go_wp2
  go_loopw [4, 5, 8] (fun _ _ c wr => ∃ k : Nat, k ≤ ws.length ∧ c = .int .i64 k ∧ Hid (Lib.IsBuilder 45 5 B b (Lib.byteCells (l ++ lineN ws k)) wr ∧ Below B w wr ∧ Lib.OthersKept 5 (some b) w wr)) (fun _ _ c _ => ws.length - (intOf c).toNat)
  case atStart => exact ⟨0, Nat.zero_le _, rfl, by simpa [lineN] using H.out, Below.refl _ _, Lib.OthersKept.refl _ _ _⟩
  case round =>
    clear H
    obtain ⟨k, hk, rfl, HI⟩ := hrel
    by_cases hlt : k < ws.length
    · obtain ⟨g, off, rfl, hc⟩ := (HW.out _ HI.out.2.2).cell (by omega)
      have hck := hc k hlt
      clear hc
      have HS := hide (lineN_succ hlt)
      have hm := HM.out (k + 1) hlt
      rw [HS.out] at hm
      generalize ws[k] = x at *
      simp only [List.length_append] at hm
      have hl := HL.out
      have HX := hide (show l.length + (lineN ws k).length + (if k = 0 then [] else [32] : List UInt8).length + x.data.toList.length ≤ 140737488355328 by omega)
      clear hm hl HM
      by_cases hz : k = 0
      · subst hz
        rw [Nat.add_zero] at hck
        go_wp2_with fail
        refine (write_any B b _ _ _ HI.out.1 (by have := HX.out; simp at this; simp; omega) (by have := HI.out.2.1.size; omega)).mono ?_
        rintro e w2 ⟨rfl, h1, h2, h3⟩
        have HN := hide (show Lib.IsBuilder 45 5 B b (Lib.byteCells (l ++ lineN ws (0 + 1))) w2 ∧ Below B w w2 ∧ Lib.OthersKept 5 (some b) w w2 from ⟨by rw [HS.out]; simpa using h1, HI.out.2.1.trans h2, HI.out.2.2.trans h3⟩)
        clear h1 h2 h3 HI HS HX
        go_wp2
        go_roundw
        case rel => exact ⟨1, by omega, by go_num, HN⟩
        case measure => simp [intOf]; omega
      · have hz' : 0 < (k : Int) := by omega
        have HZ := hide hz
        go_wp2_with fail
        refine (write_any B b _ _ _ HI.out.1 (by have := HX.out; simp [HZ.out] at this; simp; omega) (by have := HI.out.2.1.size; omega)).mono ?_
        rintro e w2 ⟨rfl, h1, h2, h3⟩
        have H1 := hide h1
        have H2 := hide (HI.out.2.1.trans h2)
        have H3 := hide (HI.out.2.2.trans h3)
        clear h1 h2 h3 HI
        go_wp2_with fail
        refine (write_any B b _ _ _ H1.out (by have := HX.out; simp [HZ.out] at this; simp; omega) (by have := H2.out.size; omega)).mono ?_
        rintro e w3 ⟨rfl, h1, h2, h3⟩
        have HN := hide (show Lib.IsBuilder 45 5 B b (Lib.byteCells (l ++ lineN ws (k + 1))) w3 ∧ Below B w w3 ∧ Lib.OthersKept 5 (some b) w w3 from ⟨by rw [HS.out]; simpa [HZ.out] using h1, H2.out.trans h2, H3.out.trans h3⟩)
        clear h1 h2 h3 H1 H2 H3 HS HX
        go_wp2
        go_roundw
        case rel => exact ⟨k + 1, by omega, by go_num, HN⟩
        case measure => simp [intOf]; omega
    · obtain rfl : k = ws.length := by omega
      go_wp2_with fail
      refine (write_any B b _ _ _ HI.out.1 (by simp; have := HL.out; omega) (by have := HI.out.2.1.size; omega)).mono ?_
      rintro e w2 ⟨rfl, h1, h2, h3⟩
      go_wp2
      go_end0
      exact ⟨rfl, h1, HI.out.2.1.trans h2, HI.out.2.2.trans h3⟩
