/- Words' numbers are put in their places. -/
import Derived.Test.YtabnimgpednhjaaDoorJkM
namespace Go.Proofs.YtabnimgpednhjaaDoor
open Go.RowKit
set_option maxRecDepth 100000

/-- Pointers into one block. -/
def PtrsAt (w : World) (q : Option Addr) (B : Nat) (offs : List Nat) : Prop := 0 < offs.length → ∃ g off, q = some ⟨g, off, none⟩ ∧ g ≠ B ∧ ∀ i (h : i < offs.length), w.cell? ⟨g, off + i, none⟩ = some (.pointer (some ⟨B, offs[i], none⟩))
theorem PtrsAt.later {w w' : World} {q : Option Addr} {B : Nat} {offs : List Nat} (h : PtrsAt w q B offs) (hb : Below w.heap.size w w') : PtrsAt w' q B offs := fun h0 => by
  obtain ⟨g, off, h1, h2, h3⟩ := h h0
  exact ⟨g, off, h1, h2, fun i hi => cell_later hb (h3 i hi)⟩
theorem PtrsAt.set {w : World} {q : Option Addr} {B o : Nat} {offs : List Nat} (h : PtrsAt w q B offs) (u : Value) : PtrsAt (w.setCell ⟨B, o, none⟩ u) q B offs := fun h0 => by
  obtain ⟨g, off, h1, h2, h3⟩ := h h0
  refine ⟨g, off, h1, h2, fun i hi => ?_⟩
  rw [World.cell?_setCell_other _ _ _ _ (fun e => h2 (by injection e with e1; exact e1.symm))]
  exact h3 i hi
/-- A block's cells, when the first numbers stand in their places. -/
def setN (arr : Array Value) (offs : List Nat) (ns : List Int) : Nat → Array Value
  | 0 => arr
  | k + 1 => match offs[k]?, ns[k]? with | some o, some n => (setN arr offs ns k).setIfInBounds o (.int .i64 n) | _, _ => setN arr offs ns k
theorem setN_succ {arr : Array Value} {offs : List Nat} {ns : List Int} {k : Nat} (h1 : k < offs.length) (h2 : k < ns.length) : setN arr offs ns (k + 1) = (setN arr offs ns k).setIfInBounds offs[k] (.int .i64 ns[k]) := by
  simp [setN, List.getElem?_eq_getElem h1, List.getElem?_eq_getElem h2]
theorem setN_size (arr : Array Value) (offs : List Nat) (ns : List Int) (k : Nat) : (setN arr offs ns k).size = arr.size := by
  induction k with
  | zero => rfl
  | succ k ih =>
    unfold setN
    split
    · rw [Array.size_setIfInBounds]; exact ih
    · exact ih
/-- Every block but one is as it was. -/
def KB (w w' : World) (B : Nat) : Prop := ∀ k, k < w.heap.size → k ≠ B → w'.heap[k]? = w.heap[k]?
theorem KB.cell {w w' : World} {B : Nat} (h : KB w w' B) {a : Addr} {v : Value} (hn : a.block ≠ B) (hc : w.cell? a = some v) : w'.cell? a = some v :=
  (World.cell?_of_block (h a.block (World.block_lt_of_cell? _ _ hc) hn)).trans hc
def readB (ws : List ByteArray) (n : Nat) : Bool := match tellAll ws with | some ns => decide (ns.length = n) | none => false

set_option maxHeartbeats 4000000 in
theorem readNumbers_any (B : Nat) (t : TypeId) (arr : Array Value) (offs : List Nat) (p q : Option Addr) (cp cq : Nat) (ws : List ByteArray) (hws : ws.length ≤ 1000000) (ho : offs.length ≤ 1000) (hin : ∀ o ∈ offs, o < arr.size) (w : World)
    (hS : StrsAt w p ws) (hP : PtrsAt w q B offs) (hBk : w.heap[B]? = some (.cells arr t (0, 0))) :
    Calls Tryd.prog 54 #[.slice p ws.length cp, .slice q offs.length cq] w fun e w' => e = .returned (.bool (readB ws offs.length)) ∧ Below B w w' ∧ KB w w' B ∧ (∀ ns, tellAll ws = some ns → ns.length = offs.length → w'.heap[B]? = some (.cells (setN arr offs ns offs.length) t (0, 0))) := by
  have HN := hide (nums_any p cp ws hws w hS)
  have hlt : B < w.heap.size := (Array.getElem?_eq_some_iff.1 hBk).1
  have HP := hide hP
  have HB := hide hBk
  have HIN := hide hin
  clear hS hP hBk hin
  go_enter Tryd.func54, Tryd.ntmps54
  go_wp2_with fail
  refine HN.out.mono ?_
  rintro e w1 ⟨v, b, rfl, hno, hb1⟩
  unfold NumsOut at hno
  have HP1 := hide (HP.out.later hb1)
  have HB1 := hide (show w1.heap[B]? = some (.cells arr t (0, 0)) from (hb1.block _ hlt).trans HB.out)
  have HW1 := hide (hb1.mono (Nat.le_of_lt hlt))
  have HK1 : Hid (KB w w1 B) := fun k hk _ => hb1.block k hk
  clear HN hb1 HP HB
  cases hta : tellAll ws with
  | none =>
    rw [hta] at hno
    obtain ⟨rfl, rfl⟩ := hno
    have HRB : Hid (readB ws offs.length = false) := by show readB _ _ = _; unfold readB; rw [hta]
    have HTA := hide hta
    clear hta
    go_wp2_with fail
    go_ret
    exact ⟨by rw [HRB.out]; rfl, HW1.out, HK1.out, fun ns h => by rw [HTA.out] at h; cases h⟩
  | some ns =>
    rw [hta] at hno
    obtain ⟨rfl, hown⟩ := hno
    have HRB : Hid (readB ws offs.length = decide (ns.length = offs.length)) := by show readB _ _ = _; unfold readB; rw [hta]
    have HTA := hide hta
    clear hta
    obtain ⟨np, nc, rfl, -⟩ := Ev.owns_ints hown
    have HO := hide hown
    clear hown
    by_cases hl : ns.length = offs.length
    · have HRT : Hid (readB ws offs.length = true) := by have := HRB.out; show _ = true; rw [this]; simpa using hl
      have HL := hide hl
      clear HRB
      go_wp2_with fail
      go_loopw [25] (fun i wr => ∃ k : Nat, k ≤ ns.length ∧ i = .int .i64 k ∧ Hid (wr.heap[B]? = some (.cells (setN arr offs ns k) t (0, 0)) ∧ wr.ownsRow w.heap.size 3 1 (.slice np ns.length nc) ns.length (ns.map (Value.int .i64)) ∧ Below B w wr ∧ PtrsAt wr q B offs ∧ KB w wr B)) (fun i _ => ns.length - (intOf i).toNat)
      case atStart => exact ⟨0, Nat.zero_le _, rfl, HB1.out, HO.out, HW1.out, HP1.out, HK1.out⟩
      case round =>
        clear HB1 HO HW1 HP1 HK1
        obtain ⟨k, hk, rfl, HR⟩ := hrel
        by_cases hlt2 : k < ns.length
        · have hki : (k : Int) < (ns.length : Int) := by omega
          have hko : (k : Int) < (offs.length : Int) := by omega
          obtain ⟨p2, c2, e2, hI⟩ := Ev.owns_ints HR.out.2.1
          obtain ⟨rfl, rfl⟩ : np = p2 ∧ nc = c2 := by injection e2 with e3 _ e4; exact ⟨e3, e4⟩
          obtain ⟨nb, noff, rfl, hnc⟩ := hI (by omega)
          obtain ⟨g, off, rfl, hgB, hpc⟩ := HR.out.2.2.2.1 (by omega)
          have hn1 := hnc k hlt2
          have hp1 := hpc k (by omega)
          have HSS := hide (setN_succ (arr := arr) (offs := offs) (ns := ns) (k := k) (by omega) hlt2)
          have hoi := HIN.out offs[k] (List.getElem_mem (by omega))
          clear hnc hpc e2 hI
          generalize hok : offs[k]'(by omega) = o at *
          generalize ns[k] = x at *
          obtain ⟨y, hy⟩ : ∃ y, wr.cell? ⟨B, o, none⟩ = some y := by
            rw [Lib.cell_of_heap HR.out.1]
            exact ⟨_, Array.getElem?_eq_getElem (by rw [setN_size]; exact hoi)⟩
          have hf : wr.frozen? ⟨B, o, none⟩ = false := Lib.frozen_of_heap HR.out.1 o
          have HV : Hid ((wr.setCell ⟨B, o, none⟩ (.int .i64 x)).heap[B]? = some (.cells (setN arr offs ns (k + 1)) t (0, 0)) ∧ (wr.setCell ⟨B, o, none⟩ (.int .i64 x)).ownsRow w.heap.size 3 1 (.slice (some ⟨nb, noff, none⟩) ns.length nc) ns.length (ns.map (Value.int .i64)) ∧ Below B w (wr.setCell ⟨B, o, none⟩ (.int .i64 x)) ∧ PtrsAt (wr.setCell ⟨B, o, none⟩ (.int .i64 x)) (some ⟨g, off, none⟩) B offs ∧ KB w (wr.setCell ⟨B, o, none⟩ (.int .i64 x)) B) := by
            refine ⟨?_, ownsRow_setCell_below HR.out.2.1 (by simpa using hlt) _, HR.out.2.2.1.setCell (p := ⟨B, o, none⟩) (Nat.le_refl _) _, HR.out.2.2.2.1.set _, fun k hk hkB => (Below.heap_setCell _ _ _ _ hkB).trans (HR.out.2.2.2.2 k hk hkB)⟩
            rw [heap_setCell_same _ _ _ _ _ _ HR.out.1, HSS.out]
          clear HR HSS
          go_wp2_with fail
          go_roundw
          case rel => exact ⟨k + 1, by omega, by go_num, HV⟩
          case measure => simp [intOf]; omega
        · obtain rfl : k = ns.length := by omega
          have hki : ¬ (ns.length : Int) < (ns.length : Int) := by omega
          go_wp2_with fail
          go_ret
          refine ⟨by rw [HRT.out]; rfl, HR.out.2.2.1, HR.out.2.2.2.2, fun ns' h1 h2 => ?_⟩
          rw [HTA.out] at h1
          cases h1
          have h := HR.out.1
          rw [HL.out] at h
          exact h
    · have HRT : Hid (readB ws offs.length = false) := by have := HRB.out; show _ = false; rw [this]; simpa using hl
      have HL := hide hl
      clear HRB
      have hli : ¬ (ns.length : Int) = (offs.length : Int) := by omega
      have hd1 : decide ((ns.length : Int) = (offs.length : Int)) = false := by simpa using hli
      have hd2 : ((ns.length : Int) == (offs.length : Int)) = false := by simpa using hli
      go_wp2_with fail
      go_ret
      exact ⟨by rw [HRT.out]; rfl, HW1.out, HK1.out, fun ns' h1 h2 => by rw [HTA.out] at h1; cases h1; exact absurd h2 HL.out⟩
end Go.Proofs.YtabnimgpednhjaaDoor
