/- A line of the text is read: pairs and marks. -/
import Derived.Test.YtabnimgpednhjaaDoorJvM
namespace Go.Proofs.YtabnimgpednhjaaDoor
open Go.RowKit Go.Deep
set_option maxRecDepth 100000

theorem strs_set {w : World} {p : Option Addr} {l : List ByteArray} {R o : Nat} {arr : Array Value} (h : StrsAt w p l) (hR : w.heap[R]? = some (.cells arr 53 (0, 0))) (u : Value) : StrsAt (w.setCell ⟨R, o, none⟩ u) p l := fun h0 => by
  obtain ⟨g, off, c, fz, h1, h2, h3⟩ := h h0
  refine ⟨g, off, c, fz, h1, ?_, h3⟩
  rw [Below.heap_setCell _ _ _ _ (fun e => by
    simp only at e
    subst e
    rw [hR] at h2
    cases h2)]
  exact h2

set_option maxHeartbeats 4000000 in
theorem line_ok1 (base R : Nat) (v0 v1 v2 v3 v4 : Value) (ns : List Ev.Nd) (is xs : List (Int × Int)) (bs hs : List Int) (last : Nat) (p : Option Addr) (a : ByteArray) (r : List ByteArray) (hrl : r.length ≤ 100000) (hl : is.length ≤ 100000) (x y : Int) (w : World) (hbs : base ≤ w.heap.size) (hSW : SW w) (hS : StrsAt w p (a :: r)) (hM : Rm w base R v0 v1 v2 v3 v4 ns is xs bs hs last) (hs0 : sortN a = 1) (hlow : last ≤ 1) (hta : tellAll r = some [x, y]) :
    Calls Tryd.prog 15 #[.pointer (some ⟨R, 0, none⟩), .slice p (r.length + 1) (r.length + 1)] w fun e w' => e = .returned (.bool true) ∧ ∃ v', Rm w' base R v0 v' v2 v3 v4 ns (is ++ [(x, y)]) xs bs hs 1 ∧ Below base w w' := by
  obtain ⟨n, hn⟩ : ∃ n, r.length = n := ⟨_, rfl⟩
  have h0 : ¬ n = 0 := fun e => by
    cases r with
    | nil => simp [tellAll] at hta
    | cons a l => simp at hn; omega
  rw [hn] at hrl ⊢
  have HRL := hide hn
  clear hn
  obtain ⟨g, off, rfl, hc⟩ := hS.cell (by simp)
  have c0 := hc 0 (by simp)
  simp only [List.getElem_cons_zero, Nat.add_zero] at c0
  have hl0 : (0 : Int) < (n : Int) + 1 := by omega
  have hl1 : (1 : Int) ≤ (n : Int) + 1 := by omega
  have HK := hide (sortOf_any a w.drew hSW)
  rw [hs0, show (((1 : Nat) : Nat) : Int) = 1 from rfl] at HK
  have hlo : ¬ (1 : Int) < (last : Int) := by omega
  have hM0 := hM.later (Below.refl w.heap.size w).drew
  have d0 : w.drew.cell? ⟨g, off, none⟩ = some (.string a) := c0
  have d1 : w.drew.cell? ⟨R, 5, none⟩ = some (.int .i64 last) := by rw [Lib.cell_of_heap hM0.c]; rfl
  have f1 : w.drew.frozen? ⟨R, 5, none⟩ = false := Lib.frozen_of_heap hM0.c 5
  have hM5 := (hM.sort 1).later (Below.refl _ _).drew
  have hM6 := hM5.later (Below.refl _ _).drew
  have d5 : (w.setCell ⟨R, 5, none⟩ (.int .i64 1)).drew.cell? ⟨R, 5, none⟩ = some (.int .i64 1) := World.cell?_setCell_same w _ _ d1
  have hS6 : StrsAt (w.setCell ⟨R, 5, none⟩ (.int .i64 1)).drew.drew (some ⟨g, off, none⟩) (a :: r) := strs_set hS hM.c _
  have HC := hide (readPair_ok base R 1 #[v0, v1, v2, v3, v4, .int .i64 ((1 : Nat) : Int)] 53 (by decide) v1 is hl (some ⟨g, off + 1, none⟩) n r (by have := HRL.out; omega) x y hta _ (by simpa using hbs) (strs_tail1 hS6) ⟨hM6.c, rfl, hM6.r1, hM6.hR⟩)
  rw [HRL.out] at HC
  have hb6 : Below base w (w.setCell ⟨R, 5, none⟩ (.int .i64 1)).drew.drew := ((Below.refl base w).setCell (p := ⟨R, 5, none⟩) hM.hR _).drew.drew
  have HB6 := hide hb6
  have HM6 := hide hM6
  have hbs6 : base ≤ (w.setCell ⟨R, 5, none⟩ (.int .i64 1)).drew.drew.heap.size := by simpa using hbs
  have HBS6 := hide hbs6
  clear hS hc hSW hM hs0 hlow hta hM0 hM5 hM6 hS6 hb6 hbs6
  go_enter Tryd.func15, Tryd.ntmps15
  go_wp2_with fail
  go_region_held3 (fun w' => w'.cell? ⟨g, off, none⟩ = some (.string a) ∧ w'.cell? ⟨R, 5, none⟩ = some (.int .i64 last))
    (first | exact ⟨d0, d1⟩ | go_keep)
    ((go_at_call 29; refine HK.out.mono ?_; rintro e w1 ⟨rfl, rfl⟩))
  go_wp2_with fail
  refine HK.out.mono ?_
  rintro e w1 ⟨rfl, rfl⟩
  go_wp2_with fail
  go_region_held3 (fun _ => True)
    (first | trivial | go_keep)
    ((go_at_call 30; with_reducible refine HC.out.mono ?_; rintro e w2 ⟨rfl, v', hc2, hr2, hk2, hat2⟩))
  have hM2 := HM6.out.put1 hc2 hr2 hk2 hat2
  have HM2 := hide hM2
  have HB2 := hide (HB6.out.trans (hk2.below HM6.out.hR HBS6.out (fun i hi => (HM6.out.r1.lt i hi).1)))
  clear hc2 hr2 hk2 hat2 hM2
  go_wp2_with fail
  go_ret
  exact ⟨rfl, v', HM2.out, HB2.out⟩

set_option maxHeartbeats 4000000 in
theorem line_ok2 (base R : Nat) (v0 v1 v2 v3 v4 : Value) (ns : List Ev.Nd) (is xs : List (Int × Int)) (bs hs : List Int) (last : Nat) (p : Option Addr) (a : ByteArray) (r : List ByteArray) (hrl : r.length ≤ 100000) (hl : xs.length ≤ 100000) (x y : Int) (w : World) (hbs : base ≤ w.heap.size) (hSW : SW w) (hS : StrsAt w p (a :: r)) (hM : Rm w base R v0 v1 v2 v3 v4 ns is xs bs hs last) (hs0 : sortN a = 2) (hlow : last ≤ 2) (hta : tellAll r = some [x, y]) :
    Calls Tryd.prog 15 #[.pointer (some ⟨R, 0, none⟩), .slice p (r.length + 1) (r.length + 1)] w fun e w' => e = .returned (.bool true) ∧ ∃ v', Rm w' base R v0 v1 v' v3 v4 ns is (xs ++ [(x, y)]) bs hs 2 ∧ Below base w w' := by
  obtain ⟨n, hn⟩ : ∃ n, r.length = n := ⟨_, rfl⟩
  have h0 : ¬ n = 0 := fun e => by
    cases r with
    | nil => simp [tellAll] at hta
    | cons a l => simp at hn; omega
  rw [hn] at hrl ⊢
  have HRL := hide hn
  clear hn
  obtain ⟨g, off, rfl, hc⟩ := hS.cell (by simp)
  have c0 := hc 0 (by simp)
  simp only [List.getElem_cons_zero, Nat.add_zero] at c0
  have hl0 : (0 : Int) < (n : Int) + 1 := by omega
  have hl1 : (1 : Int) ≤ (n : Int) + 1 := by omega
  have HK := hide (sortOf_any a w.drew hSW)
  rw [hs0, show (((2 : Nat) : Nat) : Int) = 2 from rfl] at HK
  have hlo : ¬ (2 : Int) < (last : Int) := by omega
  have hM0 := hM.later (Below.refl w.heap.size w).drew
  have d0 : w.drew.cell? ⟨g, off, none⟩ = some (.string a) := c0
  have d1 : w.drew.cell? ⟨R, 5, none⟩ = some (.int .i64 last) := by rw [Lib.cell_of_heap hM0.c]; rfl
  have f1 : w.drew.frozen? ⟨R, 5, none⟩ = false := Lib.frozen_of_heap hM0.c 5
  have hM5 := (hM.sort 2).later (Below.refl _ _).drew
  have hM6 := hM5.later (Below.refl _ _).drew
  have d5 : (w.setCell ⟨R, 5, none⟩ (.int .i64 2)).drew.cell? ⟨R, 5, none⟩ = some (.int .i64 2) := World.cell?_setCell_same w _ _ d1
  have hS6 : StrsAt (w.setCell ⟨R, 5, none⟩ (.int .i64 2)).drew.drew (some ⟨g, off, none⟩) (a :: r) := strs_set hS hM.c _
  have HC := hide (readPair_ok base R 2 #[v0, v1, v2, v3, v4, .int .i64 ((2 : Nat) : Int)] 53 (by decide) v2 xs hl (some ⟨g, off + 1, none⟩) n r (by have := HRL.out; omega) x y hta _ (by simpa using hbs) (strs_tail1 hS6) ⟨hM6.c, rfl, hM6.r2, hM6.hR⟩)
  rw [HRL.out] at HC
  have hb6 : Below base w (w.setCell ⟨R, 5, none⟩ (.int .i64 2)).drew.drew := ((Below.refl base w).setCell (p := ⟨R, 5, none⟩) hM.hR _).drew.drew
  have HB6 := hide hb6
  have HM6 := hide hM6
  have hbs6 : base ≤ (w.setCell ⟨R, 5, none⟩ (.int .i64 2)).drew.drew.heap.size := by simpa using hbs
  have HBS6 := hide hbs6
  clear hS hc hSW hM hs0 hlow hta hM0 hM5 hM6 hS6 hb6 hbs6
  go_enter Tryd.func15, Tryd.ntmps15
  go_wp2_with fail
  go_region_held3 (fun w' => w'.cell? ⟨g, off, none⟩ = some (.string a) ∧ w'.cell? ⟨R, 5, none⟩ = some (.int .i64 last))
    (first | exact ⟨d0, d1⟩ | go_keep)
    ((go_at_call 29; refine HK.out.mono ?_; rintro e w1 ⟨rfl, rfl⟩))
  go_wp2_with fail
  refine HK.out.mono ?_
  rintro e w1 ⟨rfl, rfl⟩
  go_wp2_with fail
  go_region_held3 (fun _ => True)
    (first | trivial | go_keep)
    ((go_at_call 30; with_reducible refine HC.out.mono ?_; rintro e w2 ⟨rfl, v', hc2, hr2, hk2, hat2⟩))
  have hM2 := HM6.out.put2 hc2 hr2 hk2 hat2
  have HM2 := hide hM2
  have HB2 := hide (HB6.out.trans (hk2.below HM6.out.hR HBS6.out (fun i hi => (HM6.out.r2.lt i hi).1)))
  clear hc2 hr2 hk2 hat2 hM2
  go_wp2_with fail
  go_ret
  exact ⟨rfl, v', HM2.out, HB2.out⟩

set_option maxHeartbeats 4000000 in
theorem line_ok3 (base R : Nat) (v0 v1 v2 v3 v4 : Value) (ns : List Ev.Nd) (is xs : List (Int × Int)) (bs hs : List Int) (last : Nat) (p : Option Addr) (a : ByteArray) (r : List ByteArray) (hrl : r.length ≤ 100000) (hl : bs.length ≤ 100000) (x : Int) (w : World) (hbs : base ≤ w.heap.size) (hSW : SW w) (hS : StrsAt w p (a :: r)) (hM : Rm w base R v0 v1 v2 v3 v4 ns is xs bs hs last) (hs0 : sortN a = 3) (hlow : last ≤ 3) (hta : tellAll r = some [x]) :
    Calls Tryd.prog 15 #[.pointer (some ⟨R, 0, none⟩), .slice p (r.length + 1) (r.length + 1)] w fun e w' => e = .returned (.bool true) ∧ ∃ v', Rm w' base R v0 v1 v2 v' v4 ns is xs (bs ++ [x]) hs 3 ∧ Below base w w' := by
  obtain ⟨n, hn⟩ : ∃ n, r.length = n := ⟨_, rfl⟩
  have h0 : ¬ n = 0 := fun e => by
    cases r with
    | nil => simp [tellAll] at hta
    | cons a l => simp at hn; omega
  rw [hn] at hrl ⊢
  have HRL := hide hn
  clear hn
  obtain ⟨g, off, rfl, hc⟩ := hS.cell (by simp)
  have c0 := hc 0 (by simp)
  simp only [List.getElem_cons_zero, Nat.add_zero] at c0
  have hl0 : (0 : Int) < (n : Int) + 1 := by omega
  have hl1 : (1 : Int) ≤ (n : Int) + 1 := by omega
  have HK := hide (sortOf_any a w.drew hSW)
  rw [hs0, show (((3 : Nat) : Nat) : Int) = 3 from rfl] at HK
  have hlo : ¬ (3 : Int) < (last : Int) := by omega
  have hM0 := hM.later (Below.refl w.heap.size w).drew
  have d0 : w.drew.cell? ⟨g, off, none⟩ = some (.string a) := c0
  have d1 : w.drew.cell? ⟨R, 5, none⟩ = some (.int .i64 last) := by rw [Lib.cell_of_heap hM0.c]; rfl
  have f1 : w.drew.frozen? ⟨R, 5, none⟩ = false := Lib.frozen_of_heap hM0.c 5
  have hM5 := (hM.sort 3).later (Below.refl _ _).drew
  have hM6 := hM5.later (Below.refl _ _).drew
  have d5 : (w.setCell ⟨R, 5, none⟩ (.int .i64 3)).drew.cell? ⟨R, 5, none⟩ = some (.int .i64 3) := World.cell?_setCell_same w _ _ d1
  have hS6 : StrsAt (w.setCell ⟨R, 5, none⟩ (.int .i64 3)).drew.drew (some ⟨g, off, none⟩) (a :: r) := strs_set hS hM.c _
  have HC := hide (readMark_ok base R 3 #[v0, v1, v2, v3, v4, .int .i64 ((3 : Nat) : Int)] 53 (by decide) v3 bs hl (some ⟨g, off + 1, none⟩) n r (by have := HRL.out; omega) x hta _ (by simpa using hbs) (strs_tail1 hS6) ⟨hM6.c, rfl, hM6.r3, hM6.hR⟩)
  rw [HRL.out] at HC
  have hb6 : Below base w (w.setCell ⟨R, 5, none⟩ (.int .i64 3)).drew.drew := ((Below.refl base w).setCell (p := ⟨R, 5, none⟩) hM.hR _).drew.drew
  have HB6 := hide hb6
  have HM6 := hide hM6
  have hbs6 : base ≤ (w.setCell ⟨R, 5, none⟩ (.int .i64 3)).drew.drew.heap.size := by simpa using hbs
  have HBS6 := hide hbs6
  clear hS hc hSW hM hs0 hlow hta hM0 hM5 hM6 hS6 hb6 hbs6
  go_enter Tryd.func15, Tryd.ntmps15
  go_wp2_with fail
  go_region_held3 (fun w' => w'.cell? ⟨g, off, none⟩ = some (.string a) ∧ w'.cell? ⟨R, 5, none⟩ = some (.int .i64 last))
    (first | exact ⟨d0, d1⟩ | go_keep)
    ((go_at_call 29; refine HK.out.mono ?_; rintro e w1 ⟨rfl, rfl⟩))
  go_wp2_with fail
  refine HK.out.mono ?_
  rintro e w1 ⟨rfl, rfl⟩
  go_wp2_with fail
  go_region_held3 (fun _ => True)
    (first | trivial | go_keep)
    ((go_at_call 31; with_reducible refine HC.out.mono ?_; rintro e w2 ⟨rfl, v', hc2, hr2, hk2, hat2⟩))
  have hM2 := HM6.out.put3 hc2 hr2 hk2 hat2
  have HM2 := hide hM2
  have HB2 := hide (HB6.out.trans (hk2.below HM6.out.hR HBS6.out (fun i hi => (HM6.out.r3.lt i hi).1)))
  clear hc2 hr2 hk2 hat2 hM2
  go_wp2_with fail
  go_ret
  exact ⟨rfl, v', HM2.out, HB2.out⟩

set_option maxHeartbeats 4000000 in
theorem line_ok4 (base R : Nat) (v0 v1 v2 v3 v4 : Value) (ns : List Ev.Nd) (is xs : List (Int × Int)) (bs hs : List Int) (last : Nat) (p : Option Addr) (a : ByteArray) (r : List ByteArray) (hrl : r.length ≤ 100000) (hl : hs.length ≤ 100000) (x : Int) (w : World) (hbs : base ≤ w.heap.size) (hSW : SW w) (hS : StrsAt w p (a :: r)) (hM : Rm w base R v0 v1 v2 v3 v4 ns is xs bs hs last) (hs0 : sortN a = 4) (hlow : last ≤ 4) (hta : tellAll r = some [x]) :
    Calls Tryd.prog 15 #[.pointer (some ⟨R, 0, none⟩), .slice p (r.length + 1) (r.length + 1)] w fun e w' => e = .returned (.bool true) ∧ ∃ v', Rm w' base R v0 v1 v2 v3 v' ns is xs bs (hs ++ [x]) 4 ∧ Below base w w' := by
  obtain ⟨n, hn⟩ : ∃ n, r.length = n := ⟨_, rfl⟩
  have h0 : ¬ n = 0 := fun e => by
    cases r with
    | nil => simp [tellAll] at hta
    | cons a l => simp at hn; omega
  rw [hn] at hrl ⊢
  have HRL := hide hn
  clear hn
  obtain ⟨g, off, rfl, hc⟩ := hS.cell (by simp)
  have c0 := hc 0 (by simp)
  simp only [List.getElem_cons_zero, Nat.add_zero] at c0
  have hl0 : (0 : Int) < (n : Int) + 1 := by omega
  have hl1 : (1 : Int) ≤ (n : Int) + 1 := by omega
  have HK := hide (sortOf_any a w.drew hSW)
  rw [hs0, show (((4 : Nat) : Nat) : Int) = 4 from rfl] at HK
  have hlo : ¬ (4 : Int) < (last : Int) := by omega
  have hM0 := hM.later (Below.refl w.heap.size w).drew
  have d0 : w.drew.cell? ⟨g, off, none⟩ = some (.string a) := c0
  have d1 : w.drew.cell? ⟨R, 5, none⟩ = some (.int .i64 last) := by rw [Lib.cell_of_heap hM0.c]; rfl
  have f1 : w.drew.frozen? ⟨R, 5, none⟩ = false := Lib.frozen_of_heap hM0.c 5
  have hM5 := (hM.sort 4).later (Below.refl _ _).drew
  have hM6 := hM5.later (Below.refl _ _).drew
  have d5 : (w.setCell ⟨R, 5, none⟩ (.int .i64 4)).drew.cell? ⟨R, 5, none⟩ = some (.int .i64 4) := World.cell?_setCell_same w _ _ d1
  have hS6 : StrsAt (w.setCell ⟨R, 5, none⟩ (.int .i64 4)).drew.drew (some ⟨g, off, none⟩) (a :: r) := strs_set hS hM.c _
  have HC := hide (readMark_ok base R 4 #[v0, v1, v2, v3, v4, .int .i64 ((4 : Nat) : Int)] 53 (by decide) v4 hs hl (some ⟨g, off + 1, none⟩) n r (by have := HRL.out; omega) x hta _ (by simpa using hbs) (strs_tail1 hS6) ⟨hM6.c, rfl, hM6.r4, hM6.hR⟩)
  rw [HRL.out] at HC
  have hb6 : Below base w (w.setCell ⟨R, 5, none⟩ (.int .i64 4)).drew.drew := ((Below.refl base w).setCell (p := ⟨R, 5, none⟩) hM.hR _).drew.drew
  have HB6 := hide hb6
  have HM6 := hide hM6
  have hbs6 : base ≤ (w.setCell ⟨R, 5, none⟩ (.int .i64 4)).drew.drew.heap.size := by simpa using hbs
  have HBS6 := hide hbs6
  clear hS hc hSW hM hs0 hlow hta hM0 hM5 hM6 hS6 hb6 hbs6
  go_enter Tryd.func15, Tryd.ntmps15
  go_wp2_with fail
  go_region_held3 (fun w' => w'.cell? ⟨g, off, none⟩ = some (.string a) ∧ w'.cell? ⟨R, 5, none⟩ = some (.int .i64 last))
    (first | exact ⟨d0, d1⟩ | go_keep)
    ((go_at_call 29; refine HK.out.mono ?_; rintro e w1 ⟨rfl, rfl⟩))
  go_wp2_with fail
  refine HK.out.mono ?_
  rintro e w1 ⟨rfl, rfl⟩
  go_wp2_with fail
  go_region_held3 (fun _ => True)
    (first | trivial | go_keep)
    ((go_at_call 31; with_reducible refine HC.out.mono ?_; rintro e w2 ⟨rfl, v', hc2, hr2, hk2, hat2⟩))
  have hM2 := HM6.out.put4 hc2 hr2 hk2 hat2
  have HM2 := hide hM2
  have HB2 := hide (HB6.out.trans (hk2.below HM6.out.hR HBS6.out (fun i hi => (HM6.out.r4.lt i hi).1)))
  clear hc2 hr2 hk2 hat2 hM2
  go_wp2_with fail
  go_ret
  exact ⟨rfl, v', HM2.out, HB2.out⟩
end Go.Proofs.YtabnimgpednhjaaDoor
