/- Lines: the writer's builder. -/
import Derived.Test.YtabnimgpednhjaaGreatDoorHa
import Derived.Shelf.Strings.BuilderK
namespace Go.Proofs.YtabnimgpednhjaaGreatDoor
open Go.RowKit
set_option maxRecDepth 100000

theorem size39 : (Tryz.prog.info? 41).map (·.size) = some 2 := by kernel_rfl
theorem lies39 : liesAt Tryz.prog Tryz.prog.depth 45 (2 / Tryz.prog.cellsOf 45) 0 41 1 = true := by kernel_rfl
theorem info5 : (Tryz.prog.info? 5).map (fun i => (i.zero, i.size, i.bytes)) = some (some (.int .u8 0), 1, 1) := by kernel_rfl

set_option maxHeartbeats 1000000 in
set_option maxRecDepth 100000 in
theorem check_used (b : Nat) (w : World) (h0 : w.cell? ⟨b, 0, none⟩ = some (.pointer (some ⟨b, 0, none⟩))) :
    Calls Tryz.prog 82 #[.pointer (some ⟨b, 0, none⟩)] w fun e w' => e = .returned (.tuple #[]) ∧ w' = w := by
  obtain ⟨j, hj, _⟩ := Option.map_eq_some_iff.1 size39
  go_enter Tryz.func82, Tryz.ntmps82
  go_wp2
  rw [Lib.run_neq_ptr_same w _ Tryz.underlying38 hj]
  go_wp2
  go_end0
  exact ⟨rfl, rfl⟩

set_option maxHeartbeats 1000000 in
set_option maxRecDepth 100000 in
theorem check_fresh (b : Nat) (w : World) (h0 : w.cell? ⟨b, 0, none⟩ = some (.pointer none)) (hsh : w.shape? b = some (45, 2)) (hfz : w.frozen? ⟨b, 0, none⟩ = false) :
    Calls Tryz.prog 82 #[.pointer (some ⟨b, 0, none⟩)] w fun e w' => e = .returned (.tuple #[]) ∧ w' = w.setCell ⟨b, 0, none⟩ (.pointer (some ⟨b, 0, none⟩)) := by
  obtain ⟨j, hj, hjs⟩ := Option.map_eq_some_iff.1 size39
  go_enter Tryz.func82, Tryz.ntmps82
  go_wp2
  rw [Lib.run_to_unsafe w ⟨b, 0, none⟩ Tryz.underlying38 Tryz.underlying144 hj (by rw [hjs]; decide) hsh (Nat.zero_lt_succ 1)]
  simp only [Result.andThen]
  rw [Oper.upon_value]
  go_wp2
  rw [run_callFunc_extern Tryz.func96 (by kernel_rfl) (by kernel_rfl) (by kernel_rfl) (e := Extern.AbiNoEscape.same) (by kernel_rfl)]
  rw [Lib.run_noEscape]
  simp only [Result.andThen]
  rw [Oper.upon_value]
  go_wp2
  rw [Lib.run_from_unsafe w ⟨b, 0, none⟩ Tryz.underlying144 Tryz.underlying38 hj hsh lies39]
  simp only [Result.andThen]
  rw [Oper.upon_value]
  go_wp2
  go_end0
  exact ⟨rfl, rfl⟩

theorem own_kind {w : World} {B : Nat} {e : TypeId} {v : Value} {n : Nat} {xs : List Value} (h : w.ownsRow B e 1 v n xs) : ∀ g, v.ownBlock = some g → ∃ c fz, w.heap[g]? = some (.cells c e fz) := by
  intro g hg
  rcases h.2 with ⟨rfl, _⟩ | ⟨g', cap, cur, rfl, _, hgg, _⟩
  · simp [Value.ownBlock] at hg
  · simp [Value.ownBlock] at hg
    subst hg
    exact ⟨cur, _, hgg⟩

theorem copyCheck_any (B b : Nat) (bs : List Value) (w : World) (h : Lib.IsBuilder 45 5 B b bs w) :
    Calls Tryz.prog 82 #[.pointer (some ⟨b, 0, none⟩)] w fun e w' => e = .returned (.tuple #[]) ∧ (Lib.BuilderAt 45 5 B b (.pointer (some ⟨b, 0, none⟩)) bs w' ∧ Below B w w' ∧ Lib.OthersKept 5 (some b) w w') := by
  rcases h with h | h
  · refine (check_fresh b w h.cell0 h.shape h.frozen0).mono ?_
    rintro e w' ⟨rfl, rfl⟩
    exact ⟨rfl, h.used _, (Below.refl B w).setCell (p := ⟨b, 0, none⟩) h.1 _, (Lib.OthersKept.refl 5 (some b) w).setCell ⟨b, 0, none⟩ rfl _⟩
  · refine (check_used b w h.cell0).mono ?_
    rintro e w' ⟨rfl, rfl⟩
    exact ⟨rfl, h, Below.refl B _, Lib.OthersKept.refl _ _ _⟩

set_option maxHeartbeats 2000000 in
set_option maxRecDepth 100000 in
theorem writeString_any (B b : Nat) (bs : List Value) (s : ByteArray) (w : World) (h : Lib.IsBuilder 45 5 B b bs w) (hlen : bs.length + s.size ≤ 140737488355328) (hBw : B ≤ w.heap.size) :
    Calls Tryz.prog 68 #[.pointer (some ⟨b, 0, none⟩), .string s] w fun e w' => e = .returned (.tuple #[.int .i64 s.size, .nilIface]) ∧ (Lib.BuilderAt 45 5 B b (.pointer (some ⟨b, 0, none⟩)) (bs ++ Lib.strCells s) w' ∧ Below B w w' ∧ Lib.OthersKept 5 (some b) w w') := by
  obtain ⟨i0, hi, hz0, hz1, hz2⟩ := info_parts info5
  go_enter Tryz.func68, Tryz.ntmps68
  go_wp2_with fail
  refine (copyCheck_any B b bs _ h).mono ?_
  rintro e w1 ⟨rfl, ⟨hB, v, hbk, hown, hne⟩, hb1, hk1⟩
  have hsz := hb1.size
  have c0 : w1.cell? ⟨b, 0, none⟩ = some (.pointer (some ⟨b, 0, none⟩)) := by rw [Lib.cell_of_heap hbk]; rfl
  have c1 : w1.cell? ⟨b, 1, none⟩ = some v := by rw [Lib.cell_of_heap hbk]; rfl
  go_wp2_with (at_builtin; refine Lib.wpList_append_own_string _ rfl _ _ 39 9 rfl B 5 i0 Tryz.underlying39 Tryz.underlying9 hi hz0 hz1 hz2 _ _ _ rfl hown s rfl (by unfold maxLen; omega) (by omega) (by omega) ?_)
  intro v' w2 hown' hgrow _
  have hlt : b < w1.heap.size := Lib.BuilderAt.lt ⟨hB, v, hbk, hown, hne⟩
  have hb2 : w2.heap[b]? = some (.cells #[.pointer (some ⟨b, 0, none⟩), v] 45 (0, 0)) := by
    rw [hgrow.block b hlt (fun e => hne e.symm)]
    exact hbk
  have d0 : w2.cell? ⟨b, 0, none⟩ = some (.pointer (some ⟨b, 0, none⟩)) := by rw [Lib.cell_of_heap hb2]; rfl
  have d1 : w2.cell? ⟨b, 1, none⟩ = some v := by rw [Lib.cell_of_heap hb2]; rfl
  have f1 : w2.frozen? ⟨b, 1, none⟩ = false := Lib.frozen_of_heap hb2 1
  obtain ⟨ao, n', cap, rfl⟩ : ∃ ao n' cap, v' = .slice ao n' cap := by
    rcases hown'.2 with ⟨hv, _⟩ | ⟨g, cap, cur, hv, _⟩
    · exact ⟨_, _, _, hv⟩
    · exact ⟨_, _, _, hv⟩
  go_wp2
  go_ret2
  refine ⟨rfl, ?_, ?_, (hk1.grown hgrow (own_kind hown)).setCell ⟨b, 1, none⟩ rfl _⟩
  · exact Lib.BuilderAt.put (T := 45) (e := 5) hB hb2 (bs' := bs ++ Lib.strCells s) (by simpa [Lib.strCells_length] using hown') (by decide)
  · exact (hb1.grown hgrow (by omega) (fun k hk => (hown.lt k hk).1)).setCell (p := ⟨b, 1, none⟩) hB _

theorem cells5 : Tryz.prog.cellsOf 5 = 1 := by kernel_rfl

set_option maxHeartbeats 1000000 in
set_option maxRecDepth 100000 in
theorem string_any (B b : Nat) (l : List UInt8) (w : World) (h : Lib.IsBuilder 45 5 B b (Lib.byteCells l) w) (h0 : l ≠ []) :
    Calls Tryz.prog 16 #[.pointer (some ⟨b, 0, none⟩)] w fun e w' => e = .returned (.string ⟨l.toArray⟩) ∧ Below B w w' := by
  obtain ⟨p, hB, v, hbk, hown, hne⟩ : ∃ p, Lib.BuilderAt 45 5 B b p (Lib.byteCells l) w := by
    rcases h with h | h
    · exact ⟨_, h⟩
    · exact ⟨_, h⟩
  have hl0 : l.length ≠ 0 := by simpa using h0
  rw [Lib.byteCells_length] at hown
  obtain ⟨g, cap, cur, rfl, hbg, hg, hnc, hcm, hcs, htake⟩ : ∃ g cap cur, v = .slice (some ⟨g, 0, none⟩) l.length cap ∧ B ≤ g ∧ w.heap[g]? = some (.cells cur 5 (0, 0)) ∧ l.length ≤ cap ∧ cap ≤ maxLen ∧ cur.size = cap * 1 ∧ cur.toList.take (l.length * 1) = Lib.byteCells l := by
    rcases hown.2 with ⟨_, hz⟩ | ⟨g, cap, cur, hv, r⟩
    · exact absurd hz hl0
    · exact ⟨g, cap, cur, hv, r⟩
  have c1 : w.drew.cell? ⟨b, 1, none⟩ = some (.slice (some ⟨g, 0, none⟩) l.length cap) := by
    have : w.drew.heap[b]? = some (.cells #[p, .slice (some ⟨g, 0, none⟩) l.length cap] 45 (0, 0)) := hbk
    rw [Lib.cell_of_heap this]; rfl
  have hSD : (Builtin.unsafeSliceData_ #[39] 84 #[.slice (some ⟨g, 0, none⟩) l.length cap]).run Tryz.prog w.drew = .ok (.pointer (some ⟨g, 0, none⟩)) w.drew :=
    Lib.run_unsafeSliceData_row _ _ _ _ _ _ (by omega)
  have hUS : (Builtin.unsafeString_ #[84, 3] 9 #[.pointer (some ⟨g, 0, none⟩), .int .i64 l.length]).run Tryz.prog w.drew = .ok (.string ⟨l.toArray⟩) (w.drew.freeze ⟨g, 0, none⟩ l.length) := by
    refine Lib.run_unsafeString_row w.drew 84 3 9 5 Tryz.underlying84 cells5 g cur.size (by have hg' : w.drew.heap[g]? = some (.cells cur 5 (0, 0)) := hg; simp [World.shape?, hg']) l h0 (by omega) (by unfold maxLen at hcm; omega) ?_
    intro j x hx
    exact hown.cells (g := g) rfl j (.int .u8 x.toNat) (by simp [Lib.byteCells, hx])
  have mixed : Tryz.prog.follows Departure.mixedOrders = true := by kernel_rfl
  go_enter Tryz.func16, Tryz.ntmps16
  go_wp2
  go_region_o
  all_goals (go_wp2; go_ret; exact ⟨rfl, Lib.below_freeze (Below.drew (Below.refl B w)) (p := ⟨g, 0, none⟩) hbg _⟩)
end Go.Proofs.YtabnimgpednhjaaGreatDoor

namespace Go.Proofs.YtabnimgpednhjaaGreatDoor
open Go.RowKit
set_option maxRecDepth 100000

/-- A row of strings, in one block of strings. -/
def StrsAt (w : World) (p : Option Addr) (l : List ByteArray) : Prop := 0 < l.length → ∃ b off c fz, p = some ⟨b, off, none⟩ ∧ w.heap[b]? = some (.cells c 9 fz) ∧ ∀ i (hi : i < l.length), c[off + i]? = some (.string l[i])
theorem StrsAt.cell {w : World} {p : Option Addr} {l : List ByteArray} (h : StrsAt w p l) (h0 : 0 < l.length) : ∃ b off, p = some ⟨b, off, none⟩ ∧ ∀ i (hi : i < l.length), w.cell? ⟨b, off + i, none⟩ = some (.string l[i]) := by
  obtain ⟨b, off, c, fz, h1, h2, h3⟩ := h h0
  refine ⟨b, off, h1, fun i hi => ?_⟩
  rw [Lib.cell_of_heap h2]
  exact h3 i hi
theorem StrsAt.kept {w w' : World} {p : Option Addr} {l : List ByteArray} {b : Nat} (h : StrsAt w p l) (hb : ∀ c fz, w.heap[b]? ≠ some (.cells c 9 fz)) (hk : Lib.OthersKept 5 (some b) w w') : StrsAt w' p l := fun h0 => by
  obtain ⟨g, off, c, fz, h1, h2, h3⟩ := h h0
  refine ⟨g, off, c, fz, h1, hk g _ h2 ?_ ?_, h3⟩
  · rintro e
    cases e
    exact hb _ _ h2
  · rintro c' fz' e
    cases e

/-- The bytes of the first words, with a blank between them. -/
def lineN (ws : List ByteArray) : Nat → List UInt8
  | 0 => []
  | k + 1 => (lineN ws k ++ if k = 0 then [] else [32]) ++ match ws[k]? with | some x => x.data.toList | none => []
theorem lineN_succ {ws : List ByteArray} {k : Nat} (h : k < ws.length) : lineN ws (k + 1) = (lineN ws k ++ if k = 0 then [] else [32]) ++ ws[k].data.toList := by
  simp [lineN, List.getElem?_eq_getElem h]
theorem lineN_mono {ws : List ByteArray} {k n : Nat} (h : k ≤ n) : (lineN ws k).length ≤ (lineN ws n).length := by
  induction n with
  | zero => cases (show k = 0 by omega); exact Nat.le_refl _
  | succ n ih =>
    by_cases e : k = n + 1
    · subst e; exact Nat.le_refl _
    · have := ih (by omega)
      simp only [lineN, List.length_append]
      omega
theorem cells_app (a : List UInt8) (s : ByteArray) : Lib.byteCells a ++ Lib.strCells s = Lib.byteCells (a ++ s.data.toList) := by simp [Lib.byteCells, Lib.strCells]

theorem write_any (B b : Nat) (l : List UInt8) (s : ByteArray) (w : World) (h : Lib.IsBuilder 45 5 B b (Lib.byteCells l) w) (hlen : l.length + s.data.toList.length ≤ 140737488355328) (hBw : B ≤ w.heap.size) :
    Calls Tryz.prog 68 #[.pointer (some ⟨b, 0, none⟩), .string s] w fun e w' => e = .returned (.tuple #[.int .i64 s.size, .nilIface]) ∧ (Lib.IsBuilder 45 5 B b (Lib.byteCells (l ++ s.data.toList)) w' ∧ Below B w w' ∧ Lib.OthersKept 5 (some b) w w') := by
  refine (writeString_any B b (Lib.byteCells l) s w h (by rw [Lib.byteCells_length]; exact hlen) hBw).mono ?_
  rintro e w' ⟨rfl, h1, h2, h3⟩
  rw [cells_app] at h1
  exact ⟨rfl, .inr h1, h2, h3⟩
theorem builder_not {T e : TypeId} {B b : Nat} {bs : List Value} {w : World} (h : Lib.IsBuilder T e B b bs w) (x : TypeId) (hx : T ≠ x) : ∀ c fz, w.heap[b]? ≠ some (.cells c x fz) := by
  intro c fz e
  rcases h with ⟨_, v, hb, _⟩ | ⟨_, v, hb, _⟩ <;>
  · rw [hb] at e
    cases e
    exact hx rfl

set_option maxHeartbeats 2000000 in
set_option maxRecDepth 100000 in
theorem line_any (B b : Nat) (l : List UInt8) (p : Option Addr) (cap : Nat) (ws : List ByteArray) (w : World) (h : Lib.IsBuilder 45 5 B b (Lib.byteCells l) w) (hw : StrsAt w p ws) (hlen : l.length + (lineN ws ws.length).length + 1 ≤ 140737488355328) (hws : ws.length ≤ 1000000) (hBw : B ≤ w.heap.size) :
    Calls Tryz.prog 39 #[.pointer (some ⟨b, 0, none⟩), .slice p ws.length cap] w fun e w' => e = .returned (.tuple #[]) ∧ (Lib.IsBuilder 45 5 B b (Lib.byteCells (l ++ lineN ws ws.length ++ [10])) w' ∧ Below B w w' ∧ Lib.OthersKept 5 (some b) w w') := by
  have HW := hide (fun (w' : World) (hk : Lib.OthersKept 5 (some b) w w') => hw.kept (builder_not h 9 (by decide)) hk)
  have HL := hide hlen
  have HM := hide (fun k (hk : k ≤ ws.length) => lineN_mono (ws := ws) hk)
  have H := hide h
  clear h hw hlen
  go_enter Tryz.func39, Tryz.ntmps39
  go_wp2
  go_loopw [4, 5, 8] (fun _ _ c wr => ∃ k : Nat, k ≤ ws.length ∧ c = .int .i64 k ∧ Hid (Lib.IsBuilder 45 5 B b (Lib.byteCells (l ++ lineN ws k)) wr ∧ Below B w wr ∧ Lib.OthersKept 5 (some b) w wr)) (fun _ _ c _ => ws.length - (intOf c).toNat)
  case atStart => exact ⟨0, Nat.zero_le _, rfl, by simpa [lineN] using H.out, Below.refl _ _, Lib.OthersKept.refl _ _ _⟩
  case round =>
    clear H
    obtain ⟨k, hk, rfl, HI⟩ := hrel
    by_cases hlt : k < ws.length
    · obtain ⟨g, off, rfl, hc⟩ := (HW.out _ HI.out.2.2).cell (by omega)
      have hck := hc k hlt
      clear hc
      have HS := hide (lineN_succ hlt)
      have hm := HM.out (k + 1) hlt
      rw [HS.out] at hm
      generalize ws[k] = x at *
      simp only [List.length_append] at hm
      have hl := HL.out
      have HX := hide (show l.length + (lineN ws k).length + (if k = 0 then [] else [32] : List UInt8).length + x.data.toList.length ≤ 140737488355328 by omega)
      clear hm hl HM
      by_cases hz : k = 0
      · subst hz
        rw [Nat.add_zero] at hck
        go_wp2_with fail
        refine (write_any B b _ _ _ HI.out.1 (by have := HX.out; simp at this; simp; omega) (by have := HI.out.2.1.size; omega)).mono ?_
        rintro e w2 ⟨rfl, h1, h2, h3⟩
        have HN := hide (show Lib.IsBuilder 45 5 B b (Lib.byteCells (l ++ lineN ws (0 + 1))) w2 ∧ Below B w w2 ∧ Lib.OthersKept 5 (some b) w w2 from ⟨by rw [HS.out]; simpa using h1, HI.out.2.1.trans h2, HI.out.2.2.trans h3⟩)
        clear h1 h2 h3 HI HS HX
        go_wp2
        go_roundw
        case rel => exact ⟨1, by omega, by go_num, HN⟩
        case measure => simp [intOf]; omega
      · have hz' : 0 < (k : Int) := by omega
        have HZ := hide hz
        go_wp2_with fail
        refine (write_any B b _ _ _ HI.out.1 (by have := HX.out; simp [HZ.out] at this; simp; omega) (by have := HI.out.2.1.size; omega)).mono ?_
        rintro e w2 ⟨rfl, h1, h2, h3⟩
        have H1 := hide h1
        have H2 := hide (HI.out.2.1.trans h2)
        have H3 := hide (HI.out.2.2.trans h3)
        clear h1 h2 h3 HI
        go_wp2_with fail
        refine (write_any B b _ _ _ H1.out (by have := HX.out; simp [HZ.out] at this; simp; omega) (by have := H2.out.size; omega)).mono ?_
        rintro e w3 ⟨rfl, h1, h2, h3⟩
        have HN := hide (show Lib.IsBuilder 45 5 B b (Lib.byteCells (l ++ lineN ws (k + 1))) w3 ∧ Below B w w3 ∧ Lib.OthersKept 5 (some b) w w3 from ⟨by rw [HS.out]; simpa [HZ.out] using h1, H2.out.trans h2, H3.out.trans h3⟩)
        clear h1 h2 h3 H1 H2 H3 HS HX
        go_wp2
        go_roundw
        case rel => exact ⟨k + 1, by omega, by go_num, HN⟩
        case measure => simp [intOf]; omega
    · obtain rfl : k = ws.length := by omega
      go_wp2_with fail
      refine (write_any B b _ _ _ HI.out.1 (by simp; have := HL.out; omega) (by have := HI.out.2.1.size; omega)).mono ?_
      rintro e w2 ⟨rfl, h1, h2, h3⟩
      go_wp2
      go_end0
      exact ⟨rfl, h1, HI.out.2.1.trans h2, HI.out.2.2.trans h3⟩
end Go.Proofs.YtabnimgpednhjaaGreatDoor
