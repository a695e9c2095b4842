/- A line of the text is read: pairs and marks. -/
import Derived.Test.YtabnimgpednhjaaDoorJw
namespace Go.Proofs.YtabnimgpednhjaaDoor
open Go.RowKit Go.Deep
set_option maxRecDepth 100000

set_option maxHeartbeats 4000000 in
theorem line_no1 (base R : Nat) (v0 v1 v2 v3 v4 : Value) (ns : List Ev.Nd) (is xs : List (Int × Int)) (bs hs : List Int) (last : Nat) (p : Option Addr) (a : ByteArray) (r : List ByteArray) (hrl : r.length ≤ 100000) (w : World) (hbs : base ≤ w.heap.size) (hSW : SW w) (hS : StrsAt w p (a :: r)) (hM : Rm w base R v0 v1 v2 v3 v4 ns is xs bs hs last) (hs0 : sortN a = 1) (hlow : last ≤ 1) (hno : readB r 2 = false) :
    Calls Tryd.prog 15 #[.pointer (some ⟨R, 0, none⟩), .slice p (r.length + 1) (r.length + 1)] w fun e w' => e = .returned (.bool false) ∧ Below base w w' := by
  obtain ⟨n, hn⟩ : ∃ n, r.length = n := ⟨_, rfl⟩
  rw [hn] at hrl ⊢
  have HRL := hide hn
  clear hn
  obtain ⟨g, off, rfl, hc⟩ := hS.cell (by simp)
  have c0 := hc 0 (by simp)
  simp only [List.getElem_cons_zero, Nat.add_zero] at c0
  have hl0 : (0 : Int) < (n : Int) + 1 := by omega
  have hl1 : (1 : Int) ≤ (n : Int) + 1 := by omega
  have HK := hide (sortOf_any a w.drew hSW)
  rw [hs0, show (((1 : Nat) : Nat) : Int) = 1 from rfl] at HK
  have hlo : ¬ (1 : Int) < (last : Int) := by omega
  have hM0 := hM.later (Below.refl w.heap.size w).drew
  have d0 : w.drew.cell? ⟨g, off, none⟩ = some (.string a) := c0
  have d1 : w.drew.cell? ⟨R, 5, none⟩ = some (.int .i64 last) := by rw [Lib.cell_of_heap hM0.c]; rfl
  have f1 : w.drew.frozen? ⟨R, 5, none⟩ = false := Lib.frozen_of_heap hM0.c 5
  have d5 : (w.setCell ⟨R, 5, none⟩ (.int .i64 1)).drew.cell? ⟨R, 5, none⟩ = some (.int .i64 1) := World.cell?_setCell_same w _ _ d1
  have hS6 : StrsAt (w.setCell ⟨R, 5, none⟩ (.int .i64 1)).drew.drew (some ⟨g, off, none⟩) (a :: r) := strs_set hS hM.c _
  have hb6 : Below base w (w.setCell ⟨R, 5, none⟩ (.int .i64 1)).drew.drew := ((Below.refl base w).setCell (p := ⟨R, 5, none⟩) hM.hR _).drew.drew
  have HB6 := hide hb6
  have HBS6 : Hid (base ≤ (w.setCell ⟨R, 5, none⟩ (.int .i64 1)).drew.drew.heap.size) := by show _ ≤ _; simpa using hbs
  by_cases h0 : n = 0
  · subst h0
    have HC := hide (show Calls Tryd.prog 30 _ (w.setCell ⟨R, 5, none⟩ (.int .i64 1)).drew.drew _ from readPair_no R 1 (some ⟨g, off, none⟩) 0 r (by have := HRL.out; omega) _ (strs_none HRL.out) hno)
    rw [HRL.out] at HC
    clear hS hc hSW hM hs0 hlow hno hM0 hS6 hb6
    go_enter Tryd.func15, Tryd.ntmps15
    go_wp2_with fail
    go_region_held3 (fun w' => w'.cell? ⟨g, off, none⟩ = some (.string a) ∧ w'.cell? ⟨R, 5, none⟩ = some (.int .i64 last))
      (first | exact ⟨d0, d1⟩ | go_keep)
      ((go_at_call 29; refine HK.out.mono ?_; rintro e w1 ⟨rfl, rfl⟩))
    go_wp2_with fail
    refine HK.out.mono ?_
    rintro e w1 ⟨rfl, rfl⟩
    go_wp2_with fail
    go_region_held3 (fun _ => True)
      (first | trivial | go_keep)
      ((go_at_call 30; with_reducible refine HC.out.mono ?_; rintro e w2 ⟨rfl, hb2⟩))
    have HB2 := hide (HB6.out.trans (hb2.mono HBS6.out))
    clear hb2
    go_wp2_with fail
    go_ret
    exact ⟨rfl, HB2.out⟩
  · have HC := hide (show Calls Tryd.prog 30 _ (w.setCell ⟨R, 5, none⟩ (.int .i64 1)).drew.drew _ from readPair_no R 1 (some ⟨g, off + 1, none⟩) n r (by have := HRL.out; omega) _ (strs_tail1 hS6) hno)
    rw [HRL.out] at HC
    clear hS hc hSW hM hs0 hlow hno hM0 hS6 hb6
    go_enter Tryd.func15, Tryd.ntmps15
    go_wp2_with fail
    go_region_held3 (fun w' => w'.cell? ⟨g, off, none⟩ = some (.string a) ∧ w'.cell? ⟨R, 5, none⟩ = some (.int .i64 last))
      (first | exact ⟨d0, d1⟩ | go_keep)
      ((go_at_call 29; refine HK.out.mono ?_; rintro e w1 ⟨rfl, rfl⟩))
    go_wp2_with fail
    refine HK.out.mono ?_
    rintro e w1 ⟨rfl, rfl⟩
    go_wp2_with fail
    go_region_held3 (fun _ => True)
      (first | trivial | go_keep)
      ((go_at_call 30; with_reducible refine HC.out.mono ?_; rintro e w2 ⟨rfl, hb2⟩))
    have HB2 := hide (HB6.out.trans (hb2.mono HBS6.out))
    clear hb2
    go_wp2_with fail
    go_ret
    exact ⟨rfl, HB2.out⟩

set_option maxHeartbeats 4000000 in
theorem line_no2 (base R : Nat) (v0 v1 v2 v3 v4 : Value) (ns : List Ev.Nd) (is xs : List (Int × Int)) (bs hs : List Int) (last : Nat) (p : Option Addr) (a : ByteArray) (r : List ByteArray) (hrl : r.length ≤ 100000) (w : World) (hbs : base ≤ w.heap.size) (hSW : SW w) (hS : StrsAt w p (a :: r)) (hM : Rm w base R v0 v1 v2 v3 v4 ns is xs bs hs last) (hs0 : sortN a = 2) (hlow : last ≤ 2) (hno : readB r 2 = false) :
    Calls Tryd.prog 15 #[.pointer (some ⟨R, 0, none⟩), .slice p (r.length + 1) (r.length + 1)] w fun e w' => e = .returned (.bool false) ∧ Below base w w' := by
  obtain ⟨n, hn⟩ : ∃ n, r.length = n := ⟨_, rfl⟩
  rw [hn] at hrl ⊢
  have HRL := hide hn
  clear hn
  obtain ⟨g, off, rfl, hc⟩ := hS.cell (by simp)
  have c0 := hc 0 (by simp)
  simp only [List.getElem_cons_zero, Nat.add_zero] at c0
  have hl0 : (0 : Int) < (n : Int) + 1 := by omega
  have hl1 : (1 : Int) ≤ (n : Int) + 1 := by omega
  have HK := hide (sortOf_any a w.drew hSW)
  rw [hs0, show (((2 : Nat) : Nat) : Int) = 2 from rfl] at HK
  have hlo : ¬ (2 : Int) < (last : Int) := by omega
  have hM0 := hM.later (Below.refl w.heap.size w).drew
  have d0 : w.drew.cell? ⟨g, off, none⟩ = some (.string a) := c0
  have d1 : w.drew.cell? ⟨R, 5, none⟩ = some (.int .i64 last) := by rw [Lib.cell_of_heap hM0.c]; rfl
  have f1 : w.drew.frozen? ⟨R, 5, none⟩ = false := Lib.frozen_of_heap hM0.c 5
  have d5 : (w.setCell ⟨R, 5, none⟩ (.int .i64 2)).drew.cell? ⟨R, 5, none⟩ = some (.int .i64 2) := World.cell?_setCell_same w _ _ d1
  have hS6 : StrsAt (w.setCell ⟨R, 5, none⟩ (.int .i64 2)).drew.drew (some ⟨g, off, none⟩) (a :: r) := strs_set hS hM.c _
  have hb6 : Below base w (w.setCell ⟨R, 5, none⟩ (.int .i64 2)).drew.drew := ((Below.refl base w).setCell (p := ⟨R, 5, none⟩) hM.hR _).drew.drew
  have HB6 := hide hb6
  have HBS6 : Hid (base ≤ (w.setCell ⟨R, 5, none⟩ (.int .i64 2)).drew.drew.heap.size) := by show _ ≤ _; simpa using hbs
  by_cases h0 : n = 0
  · subst h0
    have HC := hide (show Calls Tryd.prog 30 _ (w.setCell ⟨R, 5, none⟩ (.int .i64 2)).drew.drew _ from readPair_no R 2 (some ⟨g, off, none⟩) 0 r (by have := HRL.out; omega) _ (strs_none HRL.out) hno)
    rw [HRL.out] at HC
    clear hS hc hSW hM hs0 hlow hno hM0 hS6 hb6
    go_enter Tryd.func15, Tryd.ntmps15
    go_wp2_with fail
    go_region_held3 (fun w' => w'.cell? ⟨g, off, none⟩ = some (.string a) ∧ w'.cell? ⟨R, 5, none⟩ = some (.int .i64 last))
      (first | exact ⟨d0, d1⟩ | go_keep)
      ((go_at_call 29; refine HK.out.mono ?_; rintro e w1 ⟨rfl, rfl⟩))
    go_wp2_with fail
    refine HK.out.mono ?_
    rintro e w1 ⟨rfl, rfl⟩
    go_wp2_with fail
    go_region_held3 (fun _ => True)
      (first | trivial | go_keep)
      ((go_at_call 30; with_reducible refine HC.out.mono ?_; rintro e w2 ⟨rfl, hb2⟩))
    have HB2 := hide (HB6.out.trans (hb2.mono HBS6.out))
    clear hb2
    go_wp2_with fail
    go_ret
    exact ⟨rfl, HB2.out⟩
  · have HC := hide (show Calls Tryd.prog 30 _ (w.setCell ⟨R, 5, none⟩ (.int .i64 2)).drew.drew _ from readPair_no R 2 (some ⟨g, off + 1, none⟩) n r (by have := HRL.out; omega) _ (strs_tail1 hS6) hno)
    rw [HRL.out] at HC
    clear hS hc hSW hM hs0 hlow hno hM0 hS6 hb6
    go_enter Tryd.func15, Tryd.ntmps15
    go_wp2_with fail
    go_region_held3 (fun w' => w'.cell? ⟨g, off, none⟩ = some (.string a) ∧ w'.cell? ⟨R, 5, none⟩ = some (.int .i64 last))
      (first | exact ⟨d0, d1⟩ | go_keep)
      ((go_at_call 29; refine HK.out.mono ?_; rintro e w1 ⟨rfl, rfl⟩))
    go_wp2_with fail
    refine HK.out.mono ?_
    rintro e w1 ⟨rfl, rfl⟩
    go_wp2_with fail
    go_region_held3 (fun _ => True)
      (first | trivial | go_keep)
      ((go_at_call 30; with_reducible refine HC.out.mono ?_; rintro e w2 ⟨rfl, hb2⟩))
    have HB2 := hide (HB6.out.trans (hb2.mono HBS6.out))
    clear hb2
    go_wp2_with fail
    go_ret
    exact ⟨rfl, HB2.out⟩

set_option maxHeartbeats 4000000 in
theorem line_no3 (base R : Nat) (v0 v1 v2 v3 v4 : Value) (ns : List Ev.Nd) (is xs : List (Int × Int)) (bs hs : List Int) (last : Nat) (p : Option Addr) (a : ByteArray) (r : List ByteArray) (hrl : r.length ≤ 100000) (w : World) (hbs : base ≤ w.heap.size) (hSW : SW w) (hS : StrsAt w p (a :: r)) (hM : Rm w base R v0 v1 v2 v3 v4 ns is xs bs hs last) (hs0 : sortN a = 3) (hlow : last ≤ 3) (hno : readB r 1 = false) :
    Calls Tryd.prog 15 #[.pointer (some ⟨R, 0, none⟩), .slice p (r.length + 1) (r.length + 1)] w fun e w' => e = .returned (.bool false) ∧ Below base w w' := by
  obtain ⟨n, hn⟩ : ∃ n, r.length = n := ⟨_, rfl⟩
  rw [hn] at hrl ⊢
  have HRL := hide hn
  clear hn
  obtain ⟨g, off, rfl, hc⟩ := hS.cell (by simp)
  have c0 := hc 0 (by simp)
  simp only [List.getElem_cons_zero, Nat.add_zero] at c0
  have hl0 : (0 : Int) < (n : Int) + 1 := by omega
  have hl1 : (1 : Int) ≤ (n : Int) + 1 := by omega
  have HK := hide (sortOf_any a w.drew hSW)
  rw [hs0, show (((3 : Nat) : Nat) : Int) = 3 from rfl] at HK
  have hlo : ¬ (3 : Int) < (last : Int) := by omega
  have hM0 := hM.later (Below.refl w.heap.size w).drew
  have d0 : w.drew.cell? ⟨g, off, none⟩ = some (.string a) := c0
  have d1 : w.drew.cell? ⟨R, 5, none⟩ = some (.int .i64 last) := by rw [Lib.cell_of_heap hM0.c]; rfl
  have f1 : w.drew.frozen? ⟨R, 5, none⟩ = false := Lib.frozen_of_heap hM0.c 5
  have d5 : (w.setCell ⟨R, 5, none⟩ (.int .i64 3)).drew.cell? ⟨R, 5, none⟩ = some (.int .i64 3) := World.cell?_setCell_same w _ _ d1
  have hS6 : StrsAt (w.setCell ⟨R, 5, none⟩ (.int .i64 3)).drew.drew (some ⟨g, off, none⟩) (a :: r) := strs_set hS hM.c _
  have hb6 : Below base w (w.setCell ⟨R, 5, none⟩ (.int .i64 3)).drew.drew := ((Below.refl base w).setCell (p := ⟨R, 5, none⟩) hM.hR _).drew.drew
  have HB6 := hide hb6
  have HBS6 : Hid (base ≤ (w.setCell ⟨R, 5, none⟩ (.int .i64 3)).drew.drew.heap.size) := by show _ ≤ _; simpa using hbs
  by_cases h0 : n = 0
  · subst h0
    have HC := hide (show Calls Tryd.prog 31 _ (w.setCell ⟨R, 5, none⟩ (.int .i64 3)).drew.drew _ from readMark_no R 3 (some ⟨g, off, none⟩) 0 r (by have := HRL.out; omega) _ (strs_none HRL.out) hno)
    rw [HRL.out] at HC
    clear hS hc hSW hM hs0 hlow hno hM0 hS6 hb6
    go_enter Tryd.func15, Tryd.ntmps15
    go_wp2_with fail
    go_region_held3 (fun w' => w'.cell? ⟨g, off, none⟩ = some (.string a) ∧ w'.cell? ⟨R, 5, none⟩ = some (.int .i64 last))
      (first | exact ⟨d0, d1⟩ | go_keep)
      ((go_at_call 29; refine HK.out.mono ?_; rintro e w1 ⟨rfl, rfl⟩))
    go_wp2_with fail
    refine HK.out.mono ?_
    rintro e w1 ⟨rfl, rfl⟩
    go_wp2_with fail
    go_region_held3 (fun _ => True)
      (first | trivial | go_keep)
      ((go_at_call 31; with_reducible refine HC.out.mono ?_; rintro e w2 ⟨rfl, hb2⟩))
    have HB2 := hide (HB6.out.trans (hb2.mono HBS6.out))
    clear hb2
    go_wp2_with fail
    go_ret
    exact ⟨rfl, HB2.out⟩
  · have HC := hide (show Calls Tryd.prog 31 _ (w.setCell ⟨R, 5, none⟩ (.int .i64 3)).drew.drew _ from readMark_no R 3 (some ⟨g, off + 1, none⟩) n r (by have := HRL.out; omega) _ (strs_tail1 hS6) hno)
    rw [HRL.out] at HC
    clear hS hc hSW hM hs0 hlow hno hM0 hS6 hb6
    go_enter Tryd.func15, Tryd.ntmps15
    go_wp2_with fail
    go_region_held3 (fun w' => w'.cell? ⟨g, off, none⟩ = some (.string a) ∧ w'.cell? ⟨R, 5, none⟩ = some (.int .i64 last))
      (first | exact ⟨d0, d1⟩ | go_keep)
      ((go_at_call 29; refine HK.out.mono ?_; rintro e w1 ⟨rfl, rfl⟩))
    go_wp2_with fail
    refine HK.out.mono ?_
    rintro e w1 ⟨rfl, rfl⟩
    go_wp2_with fail
    go_region_held3 (fun _ => True)
      (first | trivial | go_keep)
      ((go_at_call 31; with_reducible refine HC.out.mono ?_; rintro e w2 ⟨rfl, hb2⟩))
    have HB2 := hide (HB6.out.trans (hb2.mono HBS6.out))
    clear hb2
    go_wp2_with fail
    go_ret
    exact ⟨rfl, HB2.out⟩

set_option maxHeartbeats 4000000 in
theorem line_no4 (base R : Nat) (v0 v1 v2 v3 v4 : Value) (ns : List Ev.Nd) (is xs : List (Int × Int)) (bs hs : List Int) (last : Nat) (p : Option Addr) (a : ByteArray) (r : List ByteArray) (hrl : r.length ≤ 100000) (w : World) (hbs : base ≤ w.heap.size) (hSW : SW w) (hS : StrsAt w p (a :: r)) (hM : Rm w base R v0 v1 v2 v3 v4 ns is xs bs hs last) (hs0 : sortN a = 4) (hlow : last ≤ 4) (hno : readB r 1 = false) :
    Calls Tryd.prog 15 #[.pointer (some ⟨R, 0, none⟩), .slice p (r.length + 1) (r.length + 1)] w fun e w' => e = .returned (.bool false) ∧ Below base w w' := by
  obtain ⟨n, hn⟩ : ∃ n, r.length = n := ⟨_, rfl⟩
  rw [hn] at hrl ⊢
  have HRL := hide hn
  clear hn
  obtain ⟨g, off, rfl, hc⟩ := hS.cell (by simp)
  have c0 := hc 0 (by simp)
  simp only [List.getElem_cons_zero, Nat.add_zero] at c0
  have hl0 : (0 : Int) < (n : Int) + 1 := by omega
  have hl1 : (1 : Int) ≤ (n : Int) + 1 := by omega
  have HK := hide (sortOf_any a w.drew hSW)
  rw [hs0, show (((4 : Nat) : Nat) : Int) = 4 from rfl] at HK
  have hlo : ¬ (4 : Int) < (last : Int) := by omega
  have hM0 := hM.later (Below.refl w.heap.size w).drew
  have d0 : w.drew.cell? ⟨g, off, none⟩ = some (.string a) := c0
  have d1 : w.drew.cell? ⟨R, 5, none⟩ = some (.int .i64 last) := by rw [Lib.cell_of_heap hM0.c]; rfl
  have f1 : w.drew.frozen? ⟨R, 5, none⟩ = false := Lib.frozen_of_heap hM0.c 5
  have d5 : (w.setCell ⟨R, 5, none⟩ (.int .i64 4)).drew.cell? ⟨R, 5, none⟩ = some (.int .i64 4) := World.cell?_setCell_same w _ _ d1
  have hS6 : StrsAt (w.setCell ⟨R, 5, none⟩ (.int .i64 4)).drew.drew (some ⟨g, off, none⟩) (a :: r) := strs_set hS hM.c _
  have hb6 : Below base w (w.setCell ⟨R, 5, none⟩ (.int .i64 4)).drew.drew := ((Below.refl base w).setCell (p := ⟨R, 5, none⟩) hM.hR _).drew.drew
  have HB6 := hide hb6
  have HBS6 : Hid (base ≤ (w.setCell ⟨R, 5, none⟩ (.int .i64 4)).drew.drew.heap.size) := by show _ ≤ _; simpa using hbs
  by_cases h0 : n = 0
  · subst h0
    have HC := hide (show Calls Tryd.prog 31 _ (w.setCell ⟨R, 5, none⟩ (.int .i64 4)).drew.drew _ from readMark_no R 4 (some ⟨g, off, none⟩) 0 r (by have := HRL.out; omega) _ (strs_none HRL.out) hno)
    rw [HRL.out] at HC
    clear hS hc hSW hM hs0 hlow hno hM0 hS6 hb6
    go_enter Tryd.func15, Tryd.ntmps15
    go_wp2_with fail
    go_region_held3 (fun w' => w'.cell? ⟨g, off, none⟩ = some (.string a) ∧ w'.cell? ⟨R, 5, none⟩ = some (.int .i64 last))
      (first | exact ⟨d0, d1⟩ | go_keep)
      ((go_at_call 29; refine HK.out.mono ?_; rintro e w1 ⟨rfl, rfl⟩))
    go_wp2_with fail
    refine HK.out.mono ?_
    rintro e w1 ⟨rfl, rfl⟩
    go_wp2_with fail
    go_region_held3 (fun _ => True)
      (first | trivial | go_keep)
      ((go_at_call 31; with_reducible refine HC.out.mono ?_; rintro e w2 ⟨rfl, hb2⟩))
    have HB2 := hide (HB6.out.trans (hb2.mono HBS6.out))
    clear hb2
    go_wp2_with fail
    go_ret
    exact ⟨rfl, HB2.out⟩
  · have HC := hide (show Calls Tryd.prog 31 _ (w.setCell ⟨R, 5, none⟩ (.int .i64 4)).drew.drew _ from readMark_no R 4 (some ⟨g, off + 1, none⟩) n r (by have := HRL.out; omega) _ (strs_tail1 hS6) hno)
    rw [HRL.out] at HC
    clear hS hc hSW hM hs0 hlow hno hM0 hS6 hb6
    go_enter Tryd.func15, Tryd.ntmps15
    go_wp2_with fail
    go_region_held3 (fun w' => w'.cell? ⟨g, off, none⟩ = some (.string a) ∧ w'.cell? ⟨R, 5, none⟩ = some (.int .i64 last))
      (first | exact ⟨d0, d1⟩ | go_keep)
      ((go_at_call 29; refine HK.out.mono ?_; rintro e w1 ⟨rfl, rfl⟩))
    go_wp2_with fail
    refine HK.out.mono ?_
    rintro e w1 ⟨rfl, rfl⟩
    go_wp2_with fail
    go_region_held3 (fun _ => True)
      (first | trivial | go_keep)
      ((go_at_call 31; with_reducible refine HC.out.mono ?_; rintro e w2 ⟨rfl, hb2⟩))
    have HB2 := hide (HB6.out.trans (hb2.mono HBS6.out))
    clear hb2
    go_wp2_with fail
    go_ret
    exact ⟨rfl, HB2.out⟩
end Go.Proofs.YtabnimgpednhjaaDoor
