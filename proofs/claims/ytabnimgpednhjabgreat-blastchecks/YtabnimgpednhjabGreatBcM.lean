/- Which node is whose: partners. -/
import Derived.Test.YtabnimgpednhjabGreatMjM
import Derived.Test.YtabnimgpednhjabGreatBb
namespace Go.Proofs.YtabnimgpednhjabGreat
open Go.RowKit Go.Maps
set_option maxRecDepth 100000

/-- The node of the last pair of a state; 0: there is none. -/
def lastV (l : List (Int × Int)) (x : Int) : Int := l.foldl (fun a p => if p.1 = x then p.2 else a) 0
theorem lastV_snoc (l : List (Int × Int)) (p : Int × Int) (x : Int) : lastV (l ++ [p]) x = if p.1 = x then p.2 else lastV l x := by simp [lastV, List.foldl_append]
theorem run_makeMap92 (n : Nat) (w : World) : (Instr.makeMap 92 (some (.int .i64 (n : Int)))).run Tryz.prog w = .ok (.map (some w.heap.size)) (w.alloc (.map #[] 0)) := by
  simp [Instr.makeMap]; rfl

/-- What a map of partners holds. -/
structure PartIs (l : List (Int × Int)) (D : DataW Unit) : Prop where
  has : ∀ x : Int, Maps.has D (.int .i64 x) = (fsts l).contains x
  at' : ∀ x : Int, D.atKey (.int .i64 x) (.lit (.int .i64 0)) = .lit (.int .i64 (lastV l x))
theorem partIs_zero : PartIs [] (.map []) := ⟨fun _ => rfl, fun _ => rfl⟩
theorem PartIs.step {l : List (Int × Int)} {D : DataW Unit} (h : PartIs l D) (hm : IsMap D) (s y : Int) : PartIs (l ++ [(s, y)]) (D.put (.int .i64 s) (.lit (.int .i64 y))) := by
  refine ⟨fun x => ?_, fun x => ?_⟩
  · by_cases e : x = s
    · subst e
      rw [has_put_same hm (k := .int .i64 x) trivial]
      simp [fsts]
    · rw [has_put_other (by simpa using e), h.has x]
      simp [fsts, e]
  · rw [lastV_snoc]
    by_cases e : x = s
    · subst e
      rw [atKey_put_same hm (k := .int .i64 x) trivial, if_pos rfl]
    · rw [atKey_put_other (by simpa using e), h.at' x, if_neg (fun q => e q.symm)]

set_option maxHeartbeats 2000000 in
theorem partners_any (p : Option Addr) (cap : Nat) (l : List (Int × Int)) (hl : l.length ≤ 8796093022208) (hs : ∀ (i : Nat) (h : i < l.length), 0 ≤ l[i].1 ∧ l[i].1 < 80 ∧ 0 ≤ l[i].2 ∧ l[i].2 < 80) (w : World) (hP : PairsAt w p l) :
    Calls Tryz.prog 54 #[.slice p l.length cap] w fun e w' => ∃ (M : Nat) (D : DataW Unit), e = .returned (.map (some M)) ∧ w.heap.size ≤ M ∧ w'.ownsMap Tryz.prog 3 (plainElem Tryz.prog 3) M l.length D ∧ PartIs l D ∧ Below w.heap.size w w' := by
  have hmm := run_makeMap92
  have HS := hide hs
  have HP := hide hP
  clear hs hP
  go_enter Tryz.func54, Tryz.ntmps54
  go_wp2
  go_loopw [11] (fun i wr => ∃ k : Nat, k ≤ l.length ∧ i = .int .i64 k ∧ Below w.heap.size w wr ∧ ∃ D : DataW Unit, wr.ownsMap Tryz.prog 3 (plainElem Tryz.prog 3) w.heap.size k D ∧ Hid (PartIs (l.take k) D)) (fun i _ => l.length - (intOf i).toNat)
  case atStart => exact ⟨0, Nat.zero_le _, rfl, bal (Below.refl _ _) _, .map [], World.ownsMap_made _ _ _ _, partIs_zero⟩
  case round =>
    obtain ⟨k, hk, rfl, hbw, D, hown, hD⟩ := hrel
    by_cases hlt : k < l.length
    · obtain ⟨b, off, rfl, hc⟩ := (HP.out.later hbw) (by omega)
      obtain ⟨c0, c1⟩ := hc k hlt
      have hsk := HS.out k hlt
      have hki : (k : Int) < (l.length : Int) := by omega
      have HST : Hid (PartIs (l.take (k + 1)) (D.put (.int .i64 l[k].1) (.lit (.int .i64 l[k].2)))) := by
        rw [List.take_succ_eq_append_getElem hlt]
        exact hD.out.step hown.isMap _ _
      clear hc hD
      generalize l[k] = pr at *
      obtain ⟨s, y⟩ := pr
      simp only at *
      have hkey : keyOf Tryz.prog 3 (.int .i64 s) = some (.int .i64 s) := keyOf_int_mk Tryz.underlying3 (WalkArith.wf_i64 (by omega))
      have hlw := hown.lt
      go_wp2_with (at_mapUpdate; refine wpList_mapUpdate_own _ rfl _ _ _ 92 rfl 3 3 law3 Tryz.underlying92 _ w.heap.size k _ rfl (hown.alloc _) (by unfold maxLen; omega) _ _ _ rfl rfl hkey _ [] (plainElem_int Tryz.underlying3 (WalkArith.wf_i64 (by omega))) ?_; intro w1 hown1 hgrow1)
      have HO1 := hide hown1
      have hbn : Below w.heap.size w w1 := (bal hbw _).grown hgrow1 (by simp; omega) (fun j hj => by cases hj; exact Nat.le_refl _)
      clear hown1 hgrow1 hown hbw
      go_roundw
      case rel => exact ⟨k + 1, by omega, by go_num, hbn, _, HO1.out, HST⟩
      case measure => simp [intOf]; omega
    · obtain rfl : k = l.length := by omega
      rw [List.take_length] at hD
      go_wp2
      go_ret
      exact ⟨w.heap.size, D, rfl, Nat.le_refl _, hown, hD.out, hbw⟩

end Go.Proofs.YtabnimgpednhjabGreat

namespace Go.Proofs.YtabnimgpednhjabGreat.Gg
open Go.RowKit Go.Maps Go.WideMaps
set_option maxRecDepth 100000

/-- A row of numbers in memory, that may be written. -/
def IRow (w : World) (g : Nat) (ns : List Int) : Prop := ∀ (j : Nat) (h : j < ns.length), w.cell? ⟨g, j, none⟩ = some (.int .i64 ns[j]) ∧ w.frozen? ⟨g, j, none⟩ = false
theorem IRow.kept {w w1 : World} {g : Nat} {ns : List Int} (h : IRow w g ns) (hb : w1.heap[g]? = w.heap[g]?) : IRow w1 g ns := fun j hj =>
  ⟨by rw [World.cell?_of_block (w := w) (a := ⟨g, j, none⟩) hb]; exact (h j hj).1, by rw [World.frozen?_of_block (w := w) (a := ⟨g, j, none⟩) hb]; exact (h j hj).2⟩
theorem IRow.set {w : World} {g : Nat} {ns : List Int} (h : IRow w g ns) (k : Nat) (x : Int) : IRow (w.setCell ⟨g, k, none⟩ (.int .i64 x)) g (ns.set k x) := by
  intro j hj
  rw [List.length_set] at hj
  refine ⟨?_, by rw [World.frozen?_setCell]; exact (h j hj).2⟩
  by_cases e : k = j
  · subst e
    rw [World.cell?_setCell_same w _ _ (h k hj).1]
    simp
  · rw [World.cell?_setCell_other w _ _ _ (by simp), (h j hj).1]
    rw [List.getElem_set_ne e]
theorem irow_ints {w : World} {g : Nat} {ns : List Int} (h : IRow w g ns) : IntsAt w (some ⟨g, 0, none⟩) ns := fun _ => ⟨g, 0, rfl, fun i hi => by rw [Nat.zero_add]; exact (h i hi).1⟩

theorem make_ints (n : Nat) (hn : n ≤ 17592186044416) (w : World) : ∃ w', (Instr.makeSlice 25 (.int .i64 (n : Int)) (.int .i64 (n : Int))).run Tryz.prog w = .ok (.slice (some ⟨w.heap.size, 0, none⟩) n n) w' ∧ IRow w' w.heap.size (List.replicate n 0) ∧ Below w.heap.size w w' ∧ w.heap.size < w'.heap.size := by
  obtain ⟨i0, hi, hz0, hz1, hz2⟩ := info_parts info3
  obtain ⟨w', h1, h2, h3⟩ := run_make_full (P := Tryz.prog) w w.heap.size 25 3 i0 (.int .i64 0) 1 Tryz.underlying25 hi hz0 hz1 .i64 .i64 n (by rw [hz2]; omega) (by unfold maxLen; omega) (Nat.le_refl _)
  refine ⟨w', h1, fun j hj => ?_, ⟨h3.os, h3.tape, h3.output, h3.size, fun k hk => h3.block k hk (by simp)⟩, (h2.lt w.heap.size rfl).2⟩
  have hj' : j < n := by simpa using hj
  refine ⟨?_, h2.frozenAt j⟩
  rw [h2.cellAt j (by omega)]
  simp [toList_madeCells_one, hj', Value.cells]

/-- Some of them done. -/
def curI (f : Nat → Int) (n k : Nat) : List Int := (List.range k).map f ++ List.replicate (n - k) 0
theorem curI_zero (f : Nat → Int) (n : Nat) : curI f n 0 = List.replicate n 0 := by simp [curI]
theorem curI_all (f : Nat → Int) (n : Nat) : curI f n n = (List.range n).map f := by simp [curI]
theorem curI_len (f : Nat → Int) (n k : Nat) (h : k ≤ n) : (curI f n k).length = n := by simp [curI]; omega
theorem curI_set (f : Nat → Int) (n k : Nat) (h : k < n) : (curI f n k).set k (f k) = curI f n (k + 1) := by
  unfold curI
  rw [List.range_succ, List.map_append, List.set_append_right _ _ (by simp)]
  have e : n - k = (n - (k + 1)) + 1 := by omega
  have e2 : k - ((List.range k).map f).length = 0 := by simp
  rw [e, e2, List.replicate_succ, List.set_cons_zero]
  simp

set_option maxHeartbeats 4000000 in
theorem made_any (fn : FuncId) (c : Value) (f : Nat → Int) (n B : Nat) (hn : n ≤ 1000) (F : Nat → Prop) (J : Nat → World → Prop) (w : World) (hB : B ≤ w.heap.size) (hF : ∀ g, F g → g < w.heap.size) (hJ : J 0 w)
    (hst : ∀ k w1 w2, J k w1 → (∀ g, F g → w2.heap[g]? = w1.heap[g]?) → J k w2)
    (hent : ∀ (args : Array Value) (w : World), (callFunc fn args).run Tryz.prog w = .ok (.enter fn args) w)
    (hcl : ∀ k, k < n → ∀ wr, w.heap.size ≤ wr.heap.size → J k wr → Calls Tryz.prog fn #[.int .i64 k, c] wr fun e w' => e = .returned (.int .i64 (f k)) ∧ J (k + 1) w' ∧ Below B wr w' ∧ ∀ g, ¬ F g → g < wr.heap.size → w'.heap[g]? = wr.heap[g]?) :
    Calls Tryz.prog 56 #[.int .i64 n, .func (.func fn) #[] #[c]] w fun e w' => ∃ G, e = .returned (.slice (some ⟨G, 0, none⟩) n n) ∧ w.heap.size ≤ G ∧ IRow w' G ((List.range n).map f) ∧ J n w' ∧ Below B w w' ∧ ∀ g, ¬ F g → g < w.heap.size → w'.heap[g]? = w.heap[g]? := by
  obtain ⟨w1, hmk, hrow, hb1, hlt1⟩ := make_ints n (by omega) w
  have HF := hide hF
  have HST := hide hst
  have HCL := hide hcl
  have HJ1 := hide (hst 0 w w1 hJ (fun g hg => hb1.block g (hF g hg)))
  have HR1 := hide hrow
  have HB1 := hide (hb1.mono hB)
  have HK1 : Hid (∀ g, ¬ F g → g < w.heap.size → w1.heap[g]? = w.heap[g]?) := fun g _ hg => hb1.block g hg
  clear hF hst hcl hJ hrow
  go_enter Tryz.func56, Tryz.ntmps56
  go_wp2
  go_loopw [11] (fun i wr => ∃ k : Nat, k ≤ n ∧ i = .int .i64 k ∧ Hid (IRow wr w.heap.size (curI f n k)) ∧ Hid (J k wr) ∧ Hid (Below B w wr) ∧ Hid (∀ g, ¬ F g → g < w.heap.size → wr.heap[g]? = w.heap[g]?) ∧ w1.heap.size ≤ wr.heap.size) (fun i _ => n - (intOf i).toNat)
  case atStart => exact ⟨0, Nat.zero_le _, rfl, by rw [curI_zero]; exact HR1.out, HJ1, HB1, HK1, Nat.le_refl _⟩
  case round =>
    obtain ⟨k, hk, rfl, HR, HJ, HBW, HKW, hsz⟩ := hrel
    have hcl := curI_len f n k hk
    by_cases hlt : k < n
    · have hki : (k : Int) < (n : Int) := by omega
      have HC := hide (HCL.out k hlt wr (by omega) HJ.out)
      have HS := hide (curI_set f n k hlt)
      go_wp2_with fail
      refine HC.out.mono ?_
      rintro e w2 ⟨rfl, hj2, hb2, hk2⟩
      have hnF : ¬ F w.heap.size := fun h => by have := HF.out _ h; omega
      have hr2 := HR.out.kept (hk2 _ hnF (by omega))
      obtain ⟨g0, g1⟩ := hr2 k (by omega)
      have hs2 := hb2.size
      have HR3 := hide (hr2.set k (f k))
      rw [HS.out] at HR3
      have HJ3 := hide (HST.out (k + 1) w2 (w2.setCell ⟨w.heap.size, k, none⟩ (.int .i64 (f k))) hj2 (fun g hg => Below.heap_setCell w2 _ _ g (by have := HF.out g hg; simp; omega)))
      have HB3 := hide ((HBW.out.trans hb2).setCell (p := ⟨w.heap.size, k, none⟩) hB (.int .i64 (f k)))
      have HK3 : Hid (∀ g, ¬ F g → g < w.heap.size → (w2.setCell ⟨w.heap.size, k, none⟩ (.int .i64 (f k))).heap[g]? = w.heap[g]?) := fun g h1 h2 => by
        rw [Below.heap_setCell w2 _ _ g (by simp; omega), hk2 g h1 (by omega)]
        exact HKW.out g h1 h2
      generalize (curI f n k)[k]'(by omega) = old at *
      generalize f k = x at *
      clear hr2 hj2 hb2 hk2 HR HJ HBW HKW HC HS
      go_wp2
      go_roundw
      case rel => exact ⟨k + 1, by omega, by go_num, HR3, HJ3, HB3, HK3, by simp; omega⟩
      case measure => simp [intOf]; omega
    · obtain rfl : k = n := by omega
      rw [curI_all] at HR
      go_wp2
      go_ret
      exact ⟨w.heap.size, rfl, Nat.le_refl _, HR.out, HJ.out, HBW.out, HKW.out⟩

end Go.Proofs.YtabnimgpednhjabGreat.Gg
