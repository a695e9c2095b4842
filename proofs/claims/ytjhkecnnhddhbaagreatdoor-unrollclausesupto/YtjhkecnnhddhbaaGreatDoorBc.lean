/- Bits, made one by one by a function value that may change some blocks of its own. -/
import Derived.Test.YtjhkecnnhddhbaaGreatDoorBb
namespace Go.Proofs.YtjhkecnnhddhbaaGreatDoor
open Go.RowKit Go.Maps Go.WideMaps
set_option maxRecDepth 100000
set_option maxRecDepth 100000

/-- A row of numbers in memory, that may be written. -/
def IRow (w : World) (g : Nat) (ns : List Int) : Prop := ∀ (j : Nat) (h : j < ns.length), w.cell? ⟨g, j, none⟩ = some (.int .i64 ns[j]) ∧ w.frozen? ⟨g, j, none⟩ = false
theorem IRow.kept {w w1 : World} {g : Nat} {ns : List Int} (h : IRow w g ns) (hb : w1.heap[g]? = w.heap[g]?) : IRow w1 g ns := fun j hj =>
  ⟨by rw [World.cell?_of_block (w := w) (a := ⟨g, j, none⟩) hb]; exact (h j hj).1, by rw [World.frozen?_of_block (w := w) (a := ⟨g, j, none⟩) hb]; exact (h j hj).2⟩
theorem IRow.set {w : World} {g : Nat} {ns : List Int} (h : IRow w g ns) (k : Nat) (x : Int) : IRow (w.setCell ⟨g, k, none⟩ (.int .i64 x)) g (ns.set k x) := by
  intro j hj
  rw [List.length_set] at hj
  refine ⟨?_, by rw [World.frozen?_setCell]; exact (h j hj).2⟩
  by_cases e : k = j
  · subst e
    rw [World.cell?_setCell_same w _ _ (h k hj).1]
    simp
  · rw [World.cell?_setCell_other w _ _ _ (by simp), (h j hj).1]
    rw [List.getElem_set_ne e]
theorem irow_ints {w : World} {g : Nat} {ns : List Int} (h : IRow w g ns) : IntsAt w (some ⟨g, 0, none⟩) ns := fun _ => ⟨g, 0, rfl, fun i hi => by rw [Nat.zero_add]; exact (h i hi).1⟩

theorem make_ints (n : Nat) (hn : n ≤ 17592186044416) (w : World) : ∃ w', (Instr.makeSlice 25 (.int .i64 (n : Int)) (.int .i64 (n : Int))).run Tryz.prog w = .ok (.slice (some ⟨w.heap.size, 0, none⟩) n n) w' ∧ IRow w' w.heap.size (List.replicate n 0) ∧ Below w.heap.size w w' ∧ w.heap.size < w'.heap.size := by
  obtain ⟨i0, hi, hz0, hz1, hz2⟩ := info_parts info3
  obtain ⟨w', h1, h2, h3⟩ := run_make_full (P := Tryz.prog) w w.heap.size 25 3 i0 (.int .i64 0) 1 Tryz.underlying25 hi hz0 hz1 .i64 .i64 n (by rw [hz2]; omega) (by unfold maxLen; omega) (Nat.le_refl _)
  refine ⟨w', h1, fun j hj => ?_, ⟨h3.os, h3.tape, h3.output, h3.size, fun k hk => h3.block k hk (by simp)⟩, (h2.lt w.heap.size rfl).2⟩
  have hj' : j < n := by simpa using hj
  refine ⟨?_, h2.frozenAt j⟩
  rw [h2.cellAt j (by omega)]
  simp [toList_madeCells_one, hj', Value.cells]

/-- Some of them done. -/
def curI (f : Nat → Int) (n k : Nat) : List Int := (List.range k).map f ++ List.replicate (n - k) 0
theorem curI_zero (f : Nat → Int) (n : Nat) : curI f n 0 = List.replicate n 0 := by simp [curI]
theorem curI_all (f : Nat → Int) (n : Nat) : curI f n n = (List.range n).map f := by simp [curI]
theorem curI_len (f : Nat → Int) (n k : Nat) (h : k ≤ n) : (curI f n k).length = n := by simp [curI]; omega
theorem curI_set (f : Nat → Int) (n k : Nat) (h : k < n) : (curI f n k).set k (f k) = curI f n (k + 1) := by
  unfold curI
  rw [List.range_succ, List.map_append, List.set_append_right _ _ (by simp)]
  have e : n - k = (n - (k + 1)) + 1 := by omega
  have e2 : k - ((List.range k).map f).length = 0 := by simp
  rw [e, e2, List.replicate_succ, List.set_cons_zero]
  simp

set_option maxHeartbeats 4000000 in
theorem made_any (fn : FuncId) (c : Value) (f : Nat → Int) (n B : Nat) (hn : n ≤ 1000) (F : Nat → Prop) (J : Nat → World → Prop) (w : World) (hB : B ≤ w.heap.size) (hF : ∀ g, F g → g < w.heap.size) (hJ : J 0 w)
    (hst : ∀ k w1 w2, J k w1 → (∀ g, F g → w2.heap[g]? = w1.heap[g]?) → J k w2)
    (hent : ∀ (args : Array Value) (w : World), (callFunc fn args).run Tryz.prog w = .ok (.enter fn args) w)
    (hcl : ∀ k, k < n → ∀ wr, w.heap.size ≤ wr.heap.size → J k wr → Calls Tryz.prog fn #[.int .i64 k, c] wr fun e w' => e = .returned (.int .i64 (f k)) ∧ J (k + 1) w' ∧ Below B wr w' ∧ ∀ g, ¬ F g → g < wr.heap.size → w'.heap[g]? = wr.heap[g]?) :
    Calls Tryz.prog 93 #[.int .i64 n, .func (.func fn) #[] #[c]] w fun e w' => ∃ G, e = .returned (.slice (some ⟨G, 0, none⟩) n n) ∧ w.heap.size ≤ G ∧ IRow w' G ((List.range n).map f) ∧ J n w' ∧ Below B w w' ∧ ∀ g, ¬ F g → g < w.heap.size → w'.heap[g]? = w.heap[g]? := by
  obtain ⟨w1, hmk, hrow, hb1, hlt1⟩ := make_ints n (by omega) w
  have HF := hide hF
  have HST := hide hst
  have HCL := hide hcl
  have HJ1 := hide (hst 0 w w1 hJ (fun g hg => hb1.block g (hF g hg)))
  have HR1 := hide hrow
  have HB1 := hide (hb1.mono hB)
  have HK1 : Hid (∀ g, ¬ F g → g < w.heap.size → w1.heap[g]? = w.heap[g]?) := fun g _ hg => hb1.block g hg
  clear hF hst hcl hJ hrow
  go_enter Tryz.func93, Tryz.ntmps93
  go_wp2
  go_loopw [11] (fun i wr => ∃ k : Nat, k ≤ n ∧ i = .int .i64 k ∧ Hid (IRow wr w.heap.size (curI f n k)) ∧ Hid (J k wr) ∧ Hid (Below B w wr) ∧ Hid (∀ g, ¬ F g → g < w.heap.size → wr.heap[g]? = w.heap[g]?) ∧ w1.heap.size ≤ wr.heap.size) (fun i _ => n - (intOf i).toNat)
  case atStart => exact ⟨0, Nat.zero_le _, rfl, by rw [curI_zero]; exact HR1.out, HJ1, HB1, HK1, Nat.le_refl _⟩
  case round =>
    obtain ⟨k, hk, rfl, HR, HJ, HBW, HKW, hsz⟩ := hrel
    have hcl := curI_len f n k hk
    by_cases hlt : k < n
    · have hki : (k : Int) < (n : Int) := by omega
      have HC := hide (HCL.out k hlt wr (by omega) HJ.out)
      have HS := hide (curI_set f n k hlt)
      go_wp2_with fail
      refine HC.out.mono ?_
      rintro e w2 ⟨rfl, hj2, hb2, hk2⟩
      have hnF : ¬ F w.heap.size := fun h => by have := HF.out _ h; omega
      have hr2 := HR.out.kept (hk2 _ hnF (by omega))
      obtain ⟨g0, g1⟩ := hr2 k (by omega)
      have hs2 := hb2.size
      have HR3 := hide (hr2.set k (f k))
      rw [HS.out] at HR3
      have HJ3 := hide (HST.out (k + 1) w2 (w2.setCell ⟨w.heap.size, k, none⟩ (.int .i64 (f k))) hj2 (fun g hg => Below.heap_setCell w2 _ _ g (by have := HF.out g hg; simp; omega)))
      have HB3 := hide ((HBW.out.trans hb2).setCell (p := ⟨w.heap.size, k, none⟩) hB (.int .i64 (f k)))
      have HK3 : Hid (∀ g, ¬ F g → g < w.heap.size → (w2.setCell ⟨w.heap.size, k, none⟩ (.int .i64 (f k))).heap[g]? = w.heap[g]?) := fun g h1 h2 => by
        rw [Below.heap_setCell w2 _ _ g (by simp; omega), hk2 g h1 (by omega)]
        exact HKW.out g h1 h2
      generalize (curI f n k)[k]'(by omega) = old at *
      generalize f k = x at *
      clear hr2 hj2 hb2 hk2 HR HJ HBW HKW HC HS
      go_wp2
      go_roundw
      case rel => exact ⟨k + 1, by omega, by go_num, HR3, HJ3, HB3, HK3, by simp; omega⟩
      case measure => simp [intOf]; omega
    · obtain rfl : k = n := by omega
      rw [curI_all] at HR
      go_wp2
      go_ret
      exact ⟨w.heap.size, rfl, Nat.le_refl _, HR.out, HJ.out, HBW.out, HKW.out⟩

end Go.Proofs.YtjhkecnnhddhbaaGreatDoor
