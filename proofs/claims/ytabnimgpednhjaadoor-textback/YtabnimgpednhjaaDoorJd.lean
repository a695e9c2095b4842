/- The lines of pairs and of marks are written. -/
import Derived.Test.YtabnimgpednhjaaDoorJc
import Derived.Test.YtabnimgpednhjaaDoorMdM
namespace Go.Proofs.YtabnimgpednhjaaDoor
open Go.RowKit
set_option maxRecDepth 100000

def sortL : List (List UInt8) := [[], [105, 110, 105, 116], [110, 101, 120, 116], [98, 97, 100], [104, 111, 108, 100]]
def sortB (k : Nat) : ByteArray := ⟨(sortL.getD k []).toArray⟩
def SW (w : World) : Prop := ∀ k : Nat, k < 5 → w.cell? ⟨1, k, none⟩ = some (.string (sortB k))
theorem SW.later {w w' : World} (h : SW w) (hb : Below w.heap.size w w') : SW w' := fun k hk => cell_later hb (h k hk)
/-- A line's bytes: a word, and numbers behind it. -/
def lineT (s : ByteArray) (ns : List Int) : List UInt8 := lineN (s :: ns.map itoaB) (ns.length + 1) ++ [10]
/-- The lines of the first rows of numbers. -/
def linesT (s : ByteArray) (L : List (List Int)) : Nat → List UInt8
  | 0 => []
  | k + 1 => linesT s L k ++ (match L[k]? with | some ns => lineT s ns | none => [])
theorem linesT_succ {s : ByteArray} {L : List (List Int)} {k : Nat} (h : k < L.length) : linesT s L (k + 1) = linesT s L k ++ lineT s L[k] := by
  simp [linesT, List.getElem?_eq_getElem h]
theorem sort_size (k : Nat) : (sortB k).size ≤ 4 := by
  match k with
  | 0 => decide
  | 1 => decide
  | 2 => decide
  | 3 => decide
  | 4 => decide
  | k + 5 =>
    have h : (sortB (k + 5)).size = 0 := rfl
    omega
theorem lineT_len {s : ByteArray} {ns : List Int} (hb : ∀ n ∈ ns, -9223372036854775808 ≤ n ∧ n ≤ 9223372036854775807) : (lineT s ns).length ≤ s.size + 22 * ns.length + 1 := by
  have h := wordN_size (s := s) hb ns.length (Nat.le_refl _)
  have h2 := wordN_line s ns ns.length (Nat.le_refl _)
  have h3 : (wordN s ns ns.length).data.toList.length = (wordN s ns ns.length).size := Array.length_toList
  unfold lineT
  rw [List.length_append, ← h2, h3]
  simp only [List.length_cons, List.length_nil]
  omega
def Small (L : List (List Int)) : Prop := ∀ ns ∈ L, ns.length ≤ 2 ∧ ∀ n ∈ ns, -9223372036854775808 ≤ n ∧ n ≤ 9223372036854775807
theorem linesT_len {s : ByteArray} {L : List (List Int)} (hs : s.size ≤ 4) (h : Small L) (k : Nat) (hk : k ≤ L.length) : (linesT s L k).length ≤ 50 * k := by
  induction k with
  | zero => simp [linesT]
  | succ k ih =>
    have hm := h L[k] (List.getElem_mem (by omega))
    have h1 := lineT_len (s := s) hm.2
    have h2 := ih (by omega)
    have h3 := hm.1
    rw [linesT_succ (by omega), List.length_append]
    omega
theorem below_of {w0 w wr : World} {B : Nat} (h0 : Below w0.heap.size w0 w) (hB : w0.heap.size ≤ B) (h : Below B w wr) : Below w0.heap.size w0 wr := h0.trans (h.mono hB)

theorem ints_one (w : World) (x : Int) : IntsAt (w.alloc (.cells #[.int .i64 x] 3)) (some ⟨w.heap.size, 0, none⟩) [x] := fun _ => ⟨w.heap.size, 0, rfl, fun i hi => by
  match i, hi with
  | 0, _ => simp [go_sem]⟩
theorem ints_two (w : World) (x y : Int) : IntsAt (w.alloc (.cells #[.int .i64 x, .int .i64 y] 3)) (some ⟨w.heap.size, 0, none⟩) [x, y] := fun _ => ⟨w.heap.size, 0, rfl, fun i hi => by
  match i, hi with
  | 0, _ => simp [go_sem]
  | 1, _ => simp [go_sem]⟩

set_option maxHeartbeats 8000000 in
theorem marks_any (B b : Nat) (l : List UInt8) (of : Nat) (hof : of < 5) (p : Option Addr) (cap : Nat) (ms : List Int) (hms : ms.length ≤ 1000000) (hbd : ∀ n ∈ ms, -9223372036854775808 ≤ n ∧ n ≤ 9223372036854775807) (w0 w : World) (hI : IntsAt w0 p ms) (h0 : Below w0.heap.size w0 w) (hB0 : w0.heap.size ≤ B) (hSW : SW w0) (ht : Pow w0)
    (h : Lib.IsBuilder 44 5 B b (Lib.byteCells l) w) (hBw : B ≤ w.heap.size) (hl : l.length ≤ 1000000000) :
    Calls Tryd.prog 12 #[.pointer (some ⟨b, 0, none⟩), .int .i64 of, .slice p ms.length cap] w fun e w' => e = .returned (.tuple #[]) ∧ Lib.IsBuilder 44 5 B b (Lib.byteCells (l ++ linesT (sortB of) (ms.map fun m => [m]) ms.length)) w' ∧ Below B w w' := by
  have HB := hide h
  have HI := hide (fun (w' : World) (hb : Below B w w') => hI.later (below_of h0 hB0 hb))
  have HSW := hide (fun (w' : World) (hb : Below B w w') => (hSW.later (below_of h0 hB0 hb)) of hof)
  have HT := hide (fun (w' : World) (hb : Below B w w') => tab_later ht (below_of h0 hB0 hb))
  have HBD := hide hbd
  have HSM : Hid (Small (ms.map fun m => [m])) := fun ns hn => by
    obtain ⟨m, hm, rfl⟩ := List.mem_map.1 hn
    exact ⟨by simp, fun n hn => by simp at hn; subst hn; exact hbd n hm⟩
  have hsz := sort_size of
  have hoi : (of : Int) < 5 := by omega
  have ho0 : (0 : Int) ≤ (of : Int) := by omega
  clear h hI hSW ht hbd h0
  generalize hL : (ms.map fun m => [m]) = L at *
  have HLL : Hid (L.length = ms.length) := by rw [← hL]; show _ = _; simp
  have HLK : Hid (∀ k (h : k < ms.length) (h2 : k < L.length), L[k] = [ms[k]]) := fun k h h2 => by subst hL; simp
  clear hL
  generalize hsb : sortB of = sb at *
  clear hsb
  go_enter Tryd.func12, Tryd.ntmps12
  go_wp2
  go_loopw [10] (fun i wr => ∃ k : Nat, k ≤ ms.length ∧ i = .int .i64 k ∧ Hid (Lib.IsBuilder 44 5 B b (Lib.byteCells (l ++ linesT sb L k)) wr ∧ Below B w wr)) (fun i _ => ms.length - (intOf i).toNat)
  case atStart => exact ⟨0, Nat.zero_le _, rfl, by simpa [linesT] using HB.out, Below.refl _ _⟩
  case round =>
    clear HB
    obtain ⟨k, hk, rfl, HR⟩ := hrel
    have hszw := HR.out.2.size
    have HTL := hide (linesT_len hsz HSM.out k (by rw [HLL.out]; omega))
    by_cases hlt : k < ms.length
    · obtain ⟨ib, io, rfl, hic⟩ := (HI.out wr HR.out.2) (by omega)
      have hck := hic k hlt
      have hki : (k : Int) < (ms.length : Int) := by omega
      have hLk : k < L.length := by rw [HLL.out]; omega
      have HTS := hide (linesT_succ (s := sb) hLk)
      rw [HLK.out k hlt hLk] at HTS
      have hxb := HBD.out ms[k] (List.getElem_mem hlt)
      clear hic
      generalize ms[k] = x at *
      have hsw := HSW.out wr HR.out.2
      have HLN := hide (lineT_len (s := sb) (ns := [x]) (fun n hn => by simp at hn; subst hn; exact hxb))
      have hbd : Below wr.heap.size wr wr.drew := (Below.refl _ wr).drew
      have HNB : Hid (∀ w', Below wr.heap.size wr w' → IntsAt w' (some ⟨wr.heap.size, 0, none⟩) [x] → Calls Tryd.prog 26 #[.pointer (some ⟨b, 0, none⟩), .string sb, .slice (some ⟨wr.heap.size, 0, none⟩) 1 1] w' fun e w'' => e = .returned (.tuple #[]) ∧ Lib.IsBuilder 44 5 B b (Lib.byteCells (l ++ linesT sb L (k + 1))) w'' ∧ Below B w' w'') := fun w' hb hI' => by
        refine (numbers_any B b (l ++ linesT sb L k) sb (some ⟨wr.heap.size, 0, none⟩) 1 [x] w' (builder_later HR.out.1 hb) hI' (by simp) (fun n hn => by simp at hn; subst hn; exact hxb) (by
          have h1 := HLN.out
          have h2 := HTL.out
          unfold lineT at h1
          rw [List.length_append] at h1 ⊢
          simp only [List.length_cons, List.length_nil] at h1 ⊢
          omega) (Nat.le_trans hBw (Nat.le_trans hszw hb.size)) (HT.out w' (HR.out.2.trans (hb.mono (by omega))))).mono ?_
        rintro e w'' ⟨rfl, h1, h2, _⟩
        refine ⟨rfl, ?_, h2⟩
        rw [HTS.out]
        unfold lineT
        simpa [List.append_assoc] using h1
      have HBW := hide HR.out.2
      have hne := World.new_ne wr ⟨1, of, none⟩ hsw
      simp only at hne
      have hlt1 := World.block_lt_of_cell? _ _ hsw
      simp only at hlt1
      clear HR HLN HTS HTL
      go_wp2
      go_region_held3 (fun w' => w'.cell? ⟨1, of, none⟩ = some (.string sb))
        (first | exact hsw | exact past1 hsw _ | exact HSW.out _ ((HBW.out.trans ((bal hbd _).mono (by omega))).trans hb2) | go_keep)
        ((go_at_call 26; refine (HNB.out _ (bal hbd _) (ints_one wr.drew x)).mono ?_; rintro e w2 ⟨rfl, hu2, hb2⟩))
      have HV : Hid (Lib.IsBuilder 44 5 B b (Lib.byteCells (l ++ linesT sb L (k + 1))) w2 ∧ Below B w w2) := ⟨hu2, (HBW.out.trans ((bal hbd _).mono (by omega))).trans hb2⟩
      clear hu2 hb2 HNB
      go_wp2
      go_roundw
      case rel => exact ⟨k + 1, by omega, by go_num, HV⟩
      case measure => simp [intOf]; omega
    · obtain rfl : k = ms.length := by omega
      have hki : ¬ (ms.length : Int) < (ms.length : Int) := by omega
      go_wp2
      go_end0
      exact ⟨rfl, HR.out⟩
end Go.Proofs.YtabnimgpednhjaaDoor
