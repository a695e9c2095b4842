/- The lines of pairs are written. -/
import Derived.Test.YtabnimgpednhjaaDoorJd
import Derived.Test.YtabnimgpednhjaaDoorMj
namespace Go.Proofs.YtabnimgpednhjaaDoor
open Go.RowKit
set_option maxRecDepth 100000

set_option maxHeartbeats 8000000 in
theorem pairs_any (B b : Nat) (l : List UInt8) (of : Nat) (hof : of < 5) (p : Option Addr) (cap : Nat) (ms : List (Int × Int)) (hms : ms.length ≤ 1000000) (hbd : ∀ n ∈ ms, (-9223372036854775808 ≤ n.1 ∧ n.1 ≤ 9223372036854775807) ∧ -9223372036854775808 ≤ n.2 ∧ n.2 ≤ 9223372036854775807) (w0 w : World) (hI : Ev.PairsAt w0 p ms) (h0 : Below w0.heap.size w0 w) (hB0 : w0.heap.size ≤ B) (hSW : SW w0) (ht : Pow w0)
    (h : Lib.IsBuilder 44 5 B b (Lib.byteCells l) w) (hBw : B ≤ w.heap.size) (hl : l.length ≤ 1000000000) :
    Calls Tryd.prog 11 #[.pointer (some ⟨b, 0, none⟩), .int .i64 of, .slice p ms.length cap] w fun e w' => e = .returned (.tuple #[]) ∧ Lib.IsBuilder 44 5 B b (Lib.byteCells (l ++ linesT (sortB of) (ms.map fun m => [m.1, m.2]) ms.length)) w' ∧ Below B w w' := by
  have HB := hide h
  have HI := hide (fun (w' : World) (hb : Below B w w') => hI.later (below_of h0 hB0 hb))
  have HSW := hide (fun (w' : World) (hb : Below B w w') => (hSW.later (below_of h0 hB0 hb)) of hof)
  have HT := hide (fun (w' : World) (hb : Below B w w') => tab_later ht (below_of h0 hB0 hb))
  have HBD := hide hbd
  have HSM : Hid (Small (ms.map fun m => [m.1, m.2])) := fun ns hn => by
    obtain ⟨m, hm, rfl⟩ := List.mem_map.1 hn
    exact ⟨by simp, fun n hn => by simp at hn; rcases hn with rfl | rfl <;> first | exact (hbd m hm).1 | exact (hbd m hm).2⟩
  have hsz := sort_size of
  have hoi : (of : Int) < 5 := by omega
  have ho0 : (0 : Int) ≤ (of : Int) := by omega
  clear h hI hSW ht hbd h0
  generalize hL : (ms.map fun m => [m.1, m.2]) = L at *
  have HLL : Hid (L.length = ms.length) := by rw [← hL]; show _ = _; simp
  have HLK : Hid (∀ k (h : k < ms.length) (h2 : k < L.length), L[k] = [ms[k].1, ms[k].2]) := fun k h h2 => by subst hL; simp
  clear hL
  generalize hsb : sortB of = sb at *
  clear hsb
  go_enter Tryd.func11, Tryd.ntmps11
  go_wp2
  go_loopw [10] (fun i wr => ∃ k : Nat, k ≤ ms.length ∧ i = .int .i64 k ∧ Hid (Lib.IsBuilder 44 5 B b (Lib.byteCells (l ++ linesT sb L k)) wr ∧ Below B w wr)) (fun i _ => ms.length - (intOf i).toNat)
  case atStart => exact ⟨0, Nat.zero_le _, rfl, by simpa [linesT] using HB.out, Below.refl _ _⟩
  case round =>
    clear HB
    obtain ⟨k, hk, rfl, HR⟩ := hrel
    have hszw := HR.out.2.size
    have HTL := hide (linesT_len hsz HSM.out k (by rw [HLL.out]; omega))
    by_cases hlt : k < ms.length
    · obtain ⟨ib, io, rfl, hic⟩ := (HI.out wr HR.out.2) (by omega)
      obtain ⟨hck, hck2⟩ := hic k hlt
      have hki : (k : Int) < (ms.length : Int) := by omega
      have hLk : k < L.length := by rw [HLL.out]; omega
      have HTS := hide (linesT_succ (s := sb) hLk)
      rw [HLK.out k hlt hLk] at HTS
      have hxb := HBD.out ms[k] (List.getElem_mem hlt)
      clear hic
      generalize ms[k] = xy at *
      obtain ⟨x, y⟩ := xy
      simp only at *
      have hsw := HSW.out wr HR.out.2
      have HLN := hide (lineT_len (s := sb) (ns := [x, y]) (fun n hn => by simp at hn; rcases hn with rfl | rfl <;> first | exact hxb.1 | exact hxb.2))
      have hbd : Below wr.heap.size wr wr.drew := (Below.refl _ wr).drew
      have HNB : Hid (∀ w', Below wr.heap.size wr w' → IntsAt w' (some ⟨wr.heap.size + 1, 0, none⟩) [x, y] → w'.heap[wr.heap.size]? = some (.cells #[.int .i64 x, .int .i64 y] 61 (0, 0)) → Calls Tryd.prog 26 #[.pointer (some ⟨b, 0, none⟩), .string sb, .slice (some ⟨wr.heap.size + 1, 0, none⟩) 2 2] w' fun e w'' => e = .returned (.tuple #[]) ∧ Lib.IsBuilder 44 5 B b (Lib.byteCells (l ++ linesT sb L (k + 1))) w'' ∧ Below B w' w'' ∧ w''.cell? ⟨wr.heap.size, 0, none⟩ = some (.int .i64 x) ∧ w''.cell? ⟨wr.heap.size, 1, none⟩ = some (.int .i64 y)) := fun w' hb hI' hP => by
        refine (numbers_any B b (l ++ linesT sb L k) sb (some ⟨wr.heap.size + 1, 0, none⟩) 2 [x, y] w' (builder_later HR.out.1 hb) hI' (by simp) (fun n hn => by simp at hn; rcases hn with rfl | rfl <;> first | exact hxb.1 | exact hxb.2) (by
          have h1 := HLN.out
          have h2 := HTL.out
          unfold lineT at h1
          rw [List.length_append] at h1 ⊢
          simp only [List.length_cons, List.length_nil] at h1 ⊢
          omega) (Nat.le_trans hBw (Nat.le_trans hszw hb.size)) (HT.out w' (HR.out.2.trans (hb.mono (by omega))))).mono ?_
        rintro e w'' ⟨rfl, h1, h2, h3⟩
        have hP2 := h3 wr.heap.size _ hP (fun e => by
          cases e
          exact builder_not (builder_later HR.out.1 hb) 61 (by decide) _ _ hP) (fun c fz e => by cases e)
        refine ⟨rfl, ?_, h2, by rw [Lib.cell_of_heap hP2]; rfl, by rw [Lib.cell_of_heap hP2]; rfl⟩
        rw [HTS.out]
        unfold lineT
        simpa [List.append_assoc] using h1
      have HBW := hide HR.out.2
      have hne := World.new_ne wr ⟨1, of, none⟩ hsw
      simp only at hne
      have hlt1 := World.block_lt_of_cell? _ _ hsw
      simp only at hlt1
      clear HR HLN HTS HTL
      have hbW : Below wr.heap.size wr (wr.alloc (.cells #[.int .i64 x, .int .i64 y] 61)) := bal (Below.refl _ _) _
      have s0 := past1 hsw (.cells #[.int .i64 x, .int .i64 y] 61)
      have p0 : (wr.alloc (.cells #[.int .i64 x, .int .i64 y] 61)).cell? ⟨wr.heap.size, 0, none⟩ = some (.int .i64 x) := by simp [go_sem]
      have p1 : (wr.alloc (.cells #[.int .i64 x, .int .i64 y] 61)).cell? ⟨wr.heap.size, 1, none⟩ = some (.int .i64 y) := by simp [go_sem]
      have hI2 := ints_two (wr.alloc (.cells #[.int .i64 x, .int .i64 y] 61)).drew x y
      rw [show ((wr.alloc (.cells #[.int .i64 x, .int .i64 y] 61)).drew).heap.size = wr.heap.size + 1 by simp] at hI2
      have HI2 := hide hI2
      have HW0 : Hid (((wr.alloc (.cells #[.int .i64 x, .int .i64 y] 61)).drew.alloc (.cells #[.int .i64 x, .int .i64 y] 3)).heap[wr.heap.size]? = some (.cells #[.int .i64 x, .int .i64 y] 61 (0, 0))) := alloc_was (heap_alloc_new wr _)
      have hws : (wr.alloc (.cells #[.int .i64 x, .int .i64 y] 61)).heap.size = wr.heap.size + 1 := by simp
      clear hI2
      go_wp2
      generalize wr.alloc (.cells #[.int .i64 x, .int .i64 y] 61) = W at *
      have hbX : Below wr.heap.size wr (W.drew.alloc (.cells #[.int .i64 x, .int .i64 y] 3)) := bal hbW.drew _
      have HKP : Hid (∀ w2, Below B (W.drew.alloc (.cells #[.int .i64 x, .int .i64 y] 3)) w2 → Below B w w2) := fun w2 h => (HBW.out.trans (hbX.mono (by omega))).trans h
      go_region_held3 (fun w' => w'.cell? ⟨1, of, none⟩ = some (.string sb) ∧ w'.cell? ⟨wr.heap.size, 0, none⟩ = some (.int .i64 x) ∧ w'.cell? ⟨wr.heap.size, 1, none⟩ = some (.int .i64 y))
        (first | exact ⟨s0, p0, p1⟩ | exact ⟨past1 s0 _, past1 p0 _, past1 p1 _⟩ | exact ⟨HSW.out _ (HKP.out _ hb2), hq2.1, hq2.2⟩ | go_keep)
        ((go_at_call 26; refine (HNB.out _ hbX HI2.out HW0.out).mono ?_; rintro e w2 ⟨rfl, hu2, hb2, hq2⟩))
      have HV : Hid (Lib.IsBuilder 44 5 B b (Lib.byteCells (l ++ linesT sb L (k + 1))) w2 ∧ Below B w w2) := ⟨hu2, HKP.out _ hb2⟩
      clear hu2 hb2 hq2 HNB
      go_wp2
      go_roundw
      case rel => exact ⟨k + 1, by omega, by go_num, HV⟩
      case measure => simp [intOf]; omega
    · obtain rfl : k = ms.length := by omega
      have hki : ¬ (ms.length : Int) < (ms.length : Int) := by omega
      go_wp2
      go_end0
      exact ⟨rfl, HR.out⟩
end Go.Proofs.YtabnimgpednhjaaDoor

namespace Go.Proofs.YtabnimgpednhjaaDoor
open Go.RowKit
set_option maxRecDepth 100000

theorem us_none (W : World) (q : Option Addr) : (Builtin.unsafeString_ #[74, 3] 9 #[.pointer q, .int .i64 0]).run Tryd.prog W = .ok (.string .empty) W := Lib.run_unsafeString_none W _ _ _ q
set_option maxHeartbeats 2000000 in
theorem str_nil (B b : Nat) (p : Value) (w : World) (hbk : w.heap[b]? = some (.cells #[p, .slice none 0 0] 44 (0, 0))) :
    Calls Tryd.prog 13 #[.pointer (some ⟨b, 0, none⟩)] w fun e w' => e = .returned (.string ⟨#[]⟩) ∧ Below B w w' := by
  have hUS := us_none
  have c1 : w.drew.cell? ⟨b, 1, none⟩ = some (.slice none 0 0) := by
    have : w.drew.heap[b]? = some (.cells #[p, .slice none 0 0] 44 (0, 0)) := hbk
    rw [Lib.cell_of_heap this]; rfl
  have hSD : (Builtin.unsafeSliceData_ #[38] 74 #[.slice none 0 0]).run Tryd.prog w.drew = .ok (.pointer none) w.drew := rfl
  have mixed : Tryd.prog.follows Departure.mixedOrders = true := by kernel_rfl
  go_enter Tryd.func13, Tryd.ntmps13
  go_wp2
  go_region_o
  all_goals (go_wp2; go_ret; exact ⟨rfl, Below.drew (Below.refl B w)⟩)
set_option maxHeartbeats 2000000 in
theorem str_noroom (B b g : Nat) (p : Value) (cur : Array Value) (w : World) (hBw : B ≤ w.heap.size) (hbk : w.heap[b]? = some (.cells #[p, .slice (some ⟨g, 0, none⟩) 0 0] 44 (0, 0))) (hg : w.heap[g]? = some (.cells cur 5 (0, 0))) :
    Calls Tryd.prog 13 #[.pointer (some ⟨b, 0, none⟩)] w fun e w' => e = .returned (.string ⟨#[]⟩) ∧ Below B w w' := by
  have hUS := us_none
  have hlt : b < w.heap.size := (Array.getElem?_eq_some_iff.1 hbk).1
  have c1 : w.drew.cell? ⟨b, 1, none⟩ = some (.slice (some ⟨g, 0, none⟩) 0 0) := by
    have : w.drew.heap[b]? = some (.cells #[p, .slice (some ⟨g, 0, none⟩) 0 0] 44 (0, 0)) := hbk
    rw [Lib.cell_of_heap this]; rfl
  have hSD : (Builtin.unsafeSliceData_ #[38] 74 #[.slice (some ⟨g, 0, none⟩) 0 0]).run Tryd.prog w.drew = .ok (.pointer (some ⟨w.drew.heap.size, 0, none⟩)) (w.drew.alloc (.view ⟨g, 0, none⟩ 5)) :=
    Lib.run_unsafeSliceData_zero w.drew _ _ 5 Tryd.underlying74 ⟨g, 0, none⟩ 0 (5, cur.size) (by have hg' : w.drew.heap[g]? = some (.cells cur 5 (0, 0)) := hg; simp [World.shape?, hg'])
  have c2 : (w.drew.alloc (.view ⟨g, 0, none⟩ 5)).cell? ⟨b, 1, none⟩ = some (.slice (some ⟨g, 0, none⟩) 0 0) := by
    have : (w.drew.alloc (.view ⟨g, 0, none⟩ 5)).heap[b]? = _ := (Lib.alloc_old w.drew _ b hlt).trans hbk
    rw [Lib.cell_of_heap this]; rfl
  have c3 : (w.alloc (.view ⟨g, 0, none⟩ 5)).drew.cell? ⟨b, 1, none⟩ = some (.slice (some ⟨g, 0, none⟩) 0 0) := c2
  have c0 : w.cell? ⟨b, 1, none⟩ = some (.slice (some ⟨g, 0, none⟩) 0 0) := c1
  have mixed : Tryd.prog.follows Departure.mixedOrders = true := by kernel_rfl
  go_enter Tryd.func13, Tryd.ntmps13
  go_wp2
  go_region_o
  all_goals (go_wp2; go_ret; exact ⟨rfl, (Below.drew (Below.refl B w)).alloc hBw _⟩)
set_option maxHeartbeats 2000000 in
theorem str_room (B b g cap : Nat) (p : Value) (w : World) (hc0 : cap ≠ 0) (hbk : w.heap[b]? = some (.cells #[p, .slice (some ⟨g, 0, none⟩) 0 cap] 44 (0, 0))) :
    Calls Tryd.prog 13 #[.pointer (some ⟨b, 0, none⟩)] w fun e w' => e = .returned (.string ⟨#[]⟩) ∧ Below B w w' := by
  have hUS := us_none
  have c1 : w.drew.cell? ⟨b, 1, none⟩ = some (.slice (some ⟨g, 0, none⟩) 0 cap) := by
    have : w.drew.heap[b]? = some (.cells #[p, .slice (some ⟨g, 0, none⟩) 0 cap] 44 (0, 0)) := hbk
    rw [Lib.cell_of_heap this]; rfl
  have hSD : (Builtin.unsafeSliceData_ #[38] 74 #[.slice (some ⟨g, 0, none⟩) 0 cap]).run Tryd.prog w.drew = .ok (.pointer (some ⟨g, 0, none⟩)) w.drew :=
    Lib.run_unsafeSliceData_row _ _ _ _ _ _ hc0
  clear hc0
  have mixed : Tryd.prog.follows Departure.mixedOrders = true := by kernel_rfl
  go_enter Tryd.func13, Tryd.ntmps13
  go_wp2
  go_region_o
  all_goals (go_wp2; go_ret; exact ⟨rfl, Below.drew (Below.refl B w)⟩)
theorem stringW_any (B b : Nat) (l : List UInt8) (w : World) (h : Lib.IsBuilder 44 5 B b (Lib.byteCells l) w) (hBw : B ≤ w.heap.size) :
    Calls Tryd.prog 13 #[.pointer (some ⟨b, 0, none⟩)] w fun e w' => e = .returned (.string ⟨l.toArray⟩) ∧ Below B w w' := by
  cases l with
  | cons x r => exact string_any B b (x :: r) w h (by simp)
  | nil =>
    obtain ⟨p, hB, v, hbk, hown, hne⟩ : ∃ p, Lib.BuilderAt 44 5 B b p [] w := by
      rcases h with h | h
      · exact ⟨_, h⟩
      · exact ⟨_, h⟩
    rcases hown.2 with ⟨rfl, _⟩ | ⟨g, cap, cur, rfl, hbg, hg, _, _, _, _⟩
    · exact str_nil B b p w hbk
    · by_cases hc0 : cap = 0
      · subst hc0
        exact str_noroom B b g p cur w hBw hbk hg
      · exact str_room B b g cap p w hc0 hbk
end Go.Proofs.YtabnimgpednhjaaDoor
