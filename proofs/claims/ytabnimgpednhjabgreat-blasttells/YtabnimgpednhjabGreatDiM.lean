import Derived.Test.YtabnimgpednhjabGreatBb
import Derived.Test.YtabnimgpednhjabGreatBaM
namespace Go.Proofs.YtabnimgpednhjabGreat.Gg
open Go.RowKit Go.Maps Go.WideMaps
set_option maxRecDepth 100000
def IRow (w : World) (g : Nat) (ns : List Int) : Prop := ∀ (j : Nat) (h : j < ns.length), w.cell? ⟨g, j, none⟩ = some (.int .i64 ns[j]) ∧ w.frozen? ⟨g, j, none⟩ = false
theorem IRow.kept {w w1 : World} {g : Nat} {ns : List Int} (h : IRow w g ns) (hb : w1.heap[g]? = w.heap[g]?) : IRow w1 g ns := fun j hj =>
 ⟨by rw [World.cell?_of_block (w := w) (a := ⟨g, j, none⟩) hb]; exact (h j hj).1, by rw [World.frozen?_of_block (w := w) (a := ⟨g, j, none⟩) hb]; exact (h j hj).2⟩
theorem IRow.set {w : World} {g : Nat} {ns : List Int} (h : IRow w g ns) (k : Nat) (x : Int) : IRow (w.setCell ⟨g, k, none⟩ (.int .i64 x)) g (ns.set k x) := by
 intro j hj
 rw [List.length_set] at hj
 refine ⟨?_, by rw [World.frozen?_setCell]; exact (h j hj).2⟩
 by_cases e : k = j
 · subst e
   rw [World.cell?_setCell_same w _ _ (h k hj).1]
   simp
 · rw [World.cell?_setCell_other w _ _ _ (by simp), (h j hj).1]
   rw [List.getElem_set_ne e]
theorem irow_ints {w : World} {g : Nat} {ns : List Int} (h : IRow w g ns) : IntsAt w (some ⟨g, 0, none⟩) ns := fun _ => ⟨g, 0, rfl, fun i hi => by rw [Nat.zero_add]; exact (h i hi).1⟩
theorem make_ints (n : Nat) (hn : n ≤ 17592186044416) (w : World) : ∃ w', (Instr.makeSlice 25 (.int .i64 (n : Int)) (.int .i64 (n : Int))).run Tryz.prog w = .ok (.slice (some ⟨w.heap.size, 0, none⟩) n n) w' ∧ IRow w' w.heap.size (List.replicate n 0) ∧ Below w.heap.size w w' ∧ w.heap.size < w'.heap.size := by
 obtain ⟨i0, hi, hz0, hz1, hz2⟩ := info_parts info3
 obtain ⟨w', h1, h2, h3⟩ := run_make_full (P := Tryz.prog) w w.heap.size 25 3 i0 (.int .i64 0) 1 Tryz.underlying25 hi hz0 hz1 .i64 .i64 n (by rw [hz2]; omega) (by unfold maxLen; omega) (Nat.le_refl _)
 refine ⟨w', h1, fun j hj => ?_, ⟨h3.os, h3.tape, h3.output, h3.size, fun k hk => h3.block k hk (by simp)⟩, (h2.lt w.heap.size rfl).2⟩
 have hj' : j < n := by simpa using hj
 refine ⟨?_, h2.frozenAt j⟩
 rw [h2.cellAt j (by omega)]
 simp [toList_madeCells_one, hj', Value.cells]
def curI (f : Nat → Int) (n k : Nat) : List Int := (List.range k).map f ++ List.replicate (n - k) 0
theorem curI_zero (f : Nat → Int) (n : Nat) : curI f n 0 = List.replicate n 0 := by simp [curI]
theorem curI_all (f : Nat → Int) (n : Nat) : curI f n n = (List.range n).map f := by simp [curI]
theorem curI_len (f : Nat → Int) (n k : Nat) (h : k ≤ n) : (curI f n k).length = n := by simp [curI]; omega
theorem curI_set (f : Nat → Int) (n k : Nat) (h : k < n) : (curI f n k).set k (f k) = curI f n (k + 1) := by
 unfold curI
 rw [List.range_succ, List.map_append, List.set_append_right _ _ (by simp)]
 have e : n - k = (n - (k + 1)) + 1 := by omega
 have e2 : k - ((List.range k).map f).length = 0 := by simp
 rw [e, e2, List.replicate_succ, List.set_cons_zero]
 simp
set_option maxHeartbeats 4000000 in
theorem made_any (fn : FuncId) (c : Value) (f : Nat → Int) (n B : Nat) (hn : n ≤ 1000) (F : Nat → Prop) (J : Nat → World → Prop) (w : World) (hB : B ≤ w.heap.size) (hF : ∀ g, F g → g < w.heap.size) (hJ : J 0 w)
   (hst : ∀ k w1 w2, J k w1 → (∀ g, F g → w2.heap[g]? = w1.heap[g]?) → J k w2)
   (hent : ∀ (args : Array Value) (w : World), (callFunc fn args).run Tryz.prog w = .ok (.enter fn args) w)
   (hcl : ∀ k, k < n → ∀ wr, w.heap.size ≤ wr.heap.size → J k wr → Calls Tryz.prog fn #[.int .i64 k, c] wr fun e w' => e = .returned (.int .i64 (f k)) ∧ J (k + 1) w' ∧ Below B wr w' ∧ ∀ g, ¬ F g → g < wr.heap.size → w'.heap[g]? = wr.heap[g]?) :
   Calls Tryz.prog 56 #[.int .i64 n, .func (.func fn) #[] #[c]] w fun e w' => ∃ G, e = .returned (.slice (some ⟨G, 0, none⟩) n n) ∧ w.heap.size ≤ G ∧ IRow w' G ((List.range n).map f) ∧ J n w' ∧ Below B w w' ∧ ∀ g, ¬ F g → g < w.heap.size → w'.heap[g]? = w.heap[g]? := by
 obtain ⟨w1, hmk, hrow, hb1, hlt1⟩ := make_ints n (by omega) w
 have HF := hide hF
 have HST := hide hst
 have HCL := hide hcl
 have HJ1 := hide (hst 0 w w1 hJ (fun g hg => hb1.block g (hF g hg)))
 have HR1 := hide hrow
 have HB1 := hide (hb1.mono hB)
 have HK1 : Hid (∀ g, ¬ F g → g < w.heap.size → w1.heap[g]? = w.heap[g]?) := fun g _ hg => hb1.block g hg
 clear hF hst hcl hJ hrow
 go_enter Tryz.func56, Tryz.ntmps56
 go_wp2
 go_loopw [11] (fun i wr => ∃ k : Nat, k ≤ n ∧ i = .int .i64 k ∧ Hid (IRow wr w.heap.size (curI f n k)) ∧ Hid (J k wr) ∧ Hid (Below B w wr) ∧ Hid (∀ g, ¬ F g → g < w.heap.size → wr.heap[g]? = w.heap[g]?) ∧ w1.heap.size ≤ wr.heap.size) (fun i _ => n - (intOf i).toNat)
 case atStart => exact ⟨0, Nat.zero_le _, rfl, by rw [curI_zero]; exact HR1.out, HJ1, HB1, HK1, Nat.le_refl _⟩
 case round =>
   obtain ⟨k, hk, rfl, HR, HJ, HBW, HKW, hsz⟩ := hrel
   have hcl := curI_len f n k hk
   by_cases hlt : k < n
   · have hki : (k : Int) < (n : Int) := by omega
     have HC := hide (HCL.out k hlt wr (by omega) HJ.out)
     have HS := hide (curI_set f n k hlt)
     go_wp2_with fail
     refine HC.out.mono ?_
     rintro e w2 ⟨rfl, hj2, hb2, hk2⟩
     have hnF : ¬ F w.heap.size := fun h => by have := HF.out _ h; omega
     have hr2 := HR.out.kept (hk2 _ hnF (by omega))
     obtain ⟨g0, g1⟩ := hr2 k (by omega)
     have hs2 := hb2.size
     have HR3 := hide (hr2.set k (f k))
     rw [HS.out] at HR3
     have HJ3 := hide (HST.out (k + 1) w2 (w2.setCell ⟨w.heap.size, k, none⟩ (.int .i64 (f k))) hj2 (fun g hg => Below.heap_setCell w2 _ _ g (by have := HF.out g hg; simp; omega)))
     have HB3 := hide ((HBW.out.trans hb2).setCell (p := ⟨w.heap.size, k, none⟩) hB (.int .i64 (f k)))
     have HK3 : Hid (∀ g, ¬ F g → g < w.heap.size → (w2.setCell ⟨w.heap.size, k, none⟩ (.int .i64 (f k))).heap[g]? = w.heap[g]?) := fun g h1 h2 => by
       rw [Below.heap_setCell w2 _ _ g (by simp; omega), hk2 g h1 (by omega)]
       exact HKW.out g h1 h2
     generalize (curI f n k)[k]'(by omega) = old at *
     generalize f k = x at *
     clear hr2 hj2 hb2 hk2 HR HJ HBW HKW HC HS
     go_wp2
     go_roundw
     case rel => exact ⟨k + 1, by omega, by go_num, HR3, HJ3, HB3, HK3, by simp; omega⟩
     case measure => simp [intOf]; omega
   · obtain rfl : k = n := by omega
     rw [curI_all] at HR
     go_wp2
     go_ret
     exact ⟨w.heap.size, rfl, Nat.le_refl _, HR.out, HJ.out, HBW.out, HKW.out⟩
end Go.Proofs.YtabnimgpednhjabGreat.Gg

namespace Go.Proofs.YtabnimgpednhjabGreat.Gg
open Go.RowKit Go.Maps Go.WideMaps
set_option maxRecDepth 100000
theorem enter83 (args : Array Value) (w : World) : (callFunc 83 args).run Tryz.prog w = .ok (.enter 83 args) w := by kernel_rfl
theorem enter118 (args : Array Value) (w : World) : (callFunc 118 args).run Tryz.prog w = .ok (.enter 118 args) w := by kernel_rfl
theorem and_one_bits (y : Int) (h : 0 ≤ y) (h2 : y ≤ 10000000) : bits .and .i64 y 1 = y % 2 := by
 obtain ⟨A, rfl⟩ := Int.eq_ofNat_of_zero_le h
 show IntKind.i64.wrap ((BitVec.ofInt 64 (A : Int) &&& BitVec.ofInt 64 ((1 : Nat) : Int)).toNat : Int) = _
 rw [BitVec.toNat_and, toNat64 A (by omega), toNat64 1 (by omega), Nat.and_one_is_mod, IntKind.wrap_i64]
 omega
theorem pow_div (x : Int) (i : Nat) (hx : 0 ≤ x) (hx2 : x ≤ 255) : 0 ≤ x / 2 ^ i ∧ x / 2 ^ i ≤ 255 := by
 have hp : (0 : Int) < 2 ^ i := Int.pow_pos (by decide)
 refine ⟨Int.ediv_nonneg hx (Int.le_of_lt hp), ?_⟩
 exact Int.le_trans (Int.ediv_le_self _ hx) hx2
theorem const1_any (x : Int) (i : Nat) (hx : 0 ≤ x) (hx2 : x ≤ 255) (hi : i ≤ 8) (B : Nat) (w : World) (c0 : w.cell? ⟨B, 0, none⟩ = some (.int .i64 x)) :
   Calls Tryz.prog 83 #[.int .i64 i, .pointer (some ⟨B, 0, none⟩)] w fun e w' => e = .returned (.int .i64 (x / 2 ^ i % 2)) ∧ w' = w := by
 have hm : min i 64 = i := by omega
 obtain ⟨y0, y1⟩ := pow_div x i hx hx2
 have HA := hide (and_one_bits (x / 2 ^ i) y0 (by omega))
 have HM : Hid (x / 2 ^ i % 2 = 0 ∨ x / 2 ^ i % 2 = 1) := by show _ ∨ _; omega
 go_enter Tryz.func83, Tryz.ntmps83
 go_wp2
 · rename_i hq
   rw [HA.out] at hq
   have hv : x / 2 ^ i % 2 = 1 := by simpa using hq
   have HV := hide hv
   clear hv hq
   go_ret
   exact ⟨ret_int HV.out.symm, rfl⟩
 · rename_i hq
   rw [HA.out] at hq
   have hv : x / 2 ^ i % 2 = 0 := by
     rcases HM.out with h | h
     · exact h
     · rw [h] at hq; simp at hq
   have HV := hide hv
   clear hv hq
   go_ret
   exact ⟨ret_int HV.out.symm, rfl⟩
theorem turned1_any (l : List Int) (p : Option Addr) (cap : Nat) (i : Nat) (hi : i < l.length) (hl : ∀ x ∈ l, 0 ≤ x ∧ x ≤ 10000000) (hn : l.length ≤ 1000) (B : Nat) (w : World) (c0 : w.cell? ⟨B, 0, none⟩ = some (.slice p l.length cap)) (hI : IntsAt w p l) :
   Calls Tryz.prog 118 #[.int .i64 i, .pointer (some ⟨B, 0, none⟩)] w fun e w' => e = .returned (.int .i64 (turn (l.getD i 0))) ∧ w' = w := by
 obtain ⟨b, off, rfl, hc⟩ := hI (by omega)
 have c1 := hc i hi
 have hb := hl _ (List.getElem_mem hi)
 have hg : l.getD i 0 = l[i] := by simp [List.getD, List.getElem?_eq_getElem hi]
 rw [hg]
 have hki : (i : Int) < (l.length : Int) := by omega
 clear hc hg hl hI
 generalize l[i] = x at *
 have HT := hide (fun w => turn_any x hb.1 hb.2 w)
 generalize turn x = y at *
 go_enter Tryz.func118, Tryz.ntmps118
 go_wp2_with (go_at_call 119; refine (HT.out _).mono ?_; rintro e w' ⟨rfl, rfl⟩)
 go_ret
 exact ⟨rfl, rfl⟩
def FarL (B : Nat) (p : Option Addr) (n : Nat) (g : Nat) : Prop := g = B ∨ (0 < n ∧ ∃ off, p = some ⟨g, off, none⟩)
theorem farL_lt {w : World} {B : Nat} {p : Option Addr} {l : List Int} (hB : B < w.heap.size) (hI : IntsAt w p l) : ∀ g, FarL B p l.length g → g < w.heap.size := fun g h => by
 rcases h with rfl | ⟨h0, off, rfl⟩
 · exact hB
 · obtain ⟨b, o, e, hc⟩ := hI h0
   cases e
   exact World.block_lt_of_cell? _ _ (hc 0 h0)
theorem cell_block {w1 w2 : World} {a : Addr} {v : Value} (h : w1.cell? a = some v) (hb : w2.heap[a.block]? = w1.heap[a.block]?) : w2.cell? a = some v := by
 rw [World.cell?_of_block (w := w1) (a := a) hb]; exact h
theorem ints_block {w1 w2 : World} {p : Option Addr} {l : List Int} (h : IntsAt w1 p l) (hb : ∀ g, (0 < l.length ∧ ∃ off, p = some ⟨g, off, none⟩) → w2.heap[g]? = w1.heap[g]?) : IntsAt w2 p l := fun h0 => by
 obtain ⟨b, o, e, hc⟩ := h h0
 exact ⟨b, o, e, fun i hi => cell_block (hc i hi) (hb b ⟨h0, o, e⟩)⟩
theorem map_getD (l : List Int) (f : Int → Int) : (List.range l.length).map (fun i => f (l.getD i 0)) = l.map f := by
 apply List.ext_getElem
 · simp
 · intro i h1 h2
   simp at h1
   simp [List.getElem?_eq_getElem h1]
set_option maxHeartbeats 2000000 in
theorem turnedB_any (l : List Int) (p : Option Addr) (cap : Nat) (hl : ∀ x ∈ l, 0 ≤ x ∧ x ≤ 10000000) (hn : l.length ≤ 1000) (w : World) (hI : IntsAt w p l) :
   Calls Tryz.prog 95 #[.slice p l.length cap] w fun e w' => ∃ G, e = .returned (.slice (some ⟨G, 0, none⟩) l.length l.length) ∧ w.heap.size ≤ G ∧ IRow w' G (l.map turn) ∧ Below w.heap.size w w' := by
 have hB0 : Below w.heap.size w (w.alloc (.cells #[.slice p l.length cap] 25)) := bal (Below.refl _ _) _
 have hM := made_any 118 (.pointer (some ⟨w.heap.size, 0, none⟩)) (fun i => turn (l.getD i 0)) l.length w.heap.size hn (FarL w.heap.size p l.length)
   (fun _ wr => wr.cell? ⟨w.heap.size, 0, none⟩ = some (.slice p l.length cap) ∧ IntsAt wr p l) (w.alloc (.cells #[.slice p l.length cap] 25)) (by simp) (farL_lt (by simp) (hI.later hB0)) ⟨by simp [go_sem], hI.later hB0⟩
   (fun _ w1 w2 h hk => ⟨cell_block h.1 (hk _ (Or.inl rfl)), ints_block h.2 (fun g hg => hk g (Or.inr hg))⟩) enter118
   (fun k hk wr _ h => (turned1_any l p cap k hk hl hn w.heap.size wr h.1 h.2).mono fun e w' ⟨h1, h2⟩ => by
     subst h2
     exact ⟨h1, h, Below.refl _ _, fun _ _ _ => rfl⟩)
 rw [map_getD l turn] at hM
 have HM := hide hM
 have HB0 := hide hB0
 clear hM hB0
 go_enter Tryz.func95, Tryz.ntmps95
 go_wp2_with fail
 refine HM.out.mono ?_
 rintro e w1 ⟨G, rfl, hG, hr, _, hb, _⟩
 have HR := hide hr
 have HB := hide (HB0.out.trans hb)
 have hG2 : w.heap.size ≤ G := by simp at hG; omega
 clear hr hb hG
 go_wp2
 go_ret
 exact ⟨G, rfl, hG2, HR.out, HB.out⟩
def bitsC (x : Int) (n : Nat) : List Int := (List.range n).map (fun i => x / 2 ^ i % 2)
set_option maxHeartbeats 2000000 in
theorem constant_any (x : Int) (n : Nat) (hx : 0 ≤ x) (hx2 : x ≤ 255) (hn : n ≤ 8) (w : World) :
   Calls Tryz.prog 55 #[.int .i64 x, .int .i64 n] w fun e w' => ∃ G, e = .returned (.slice (some ⟨G, 0, none⟩) n n) ∧ w.heap.size ≤ G ∧ IRow w' G (bitsC x n) ∧ Below w.heap.size w w' := by
 have hB0 : Below w.heap.size w (w.alloc (.cells #[.int .i64 x] 3)) := bal (Below.refl _ _) _
 have hM := made_any 83 (.pointer (some ⟨w.heap.size, 0, none⟩)) (fun i => x / 2 ^ i % 2) n w.heap.size (by omega) (fun g => g = w.heap.size)
   (fun _ wr => wr.cell? ⟨w.heap.size, 0, none⟩ = some (.int .i64 x)) (w.alloc (.cells #[.int .i64 x] 3)) (by simp) (fun g h => by subst h; simp) (by simp [go_sem])
   (fun _ w1 w2 h hk => cell_block h (hk _ rfl)) enter83
   (fun k hk wr _ h => (const1_any x k hx hx2 (by omega) w.heap.size wr h).mono fun e w' ⟨h1, h2⟩ => by
     subst h2
     exact ⟨h1, h, Below.refl _ _, fun _ _ _ => rfl⟩)
 have HM := hide hM
 have HB0 := hide hB0
 clear hM hB0
 go_enter Tryz.func55, Tryz.ntmps55
 go_wp2_with fail
 refine HM.out.mono ?_
 rintro e w1 ⟨G, rfl, hG, hr, _, hb, _⟩
 have HR := hide hr
 have HB := hide (HB0.out.trans hb)
 have hG2 : w.heap.size ≤ G := by simp at hG; omega
 clear hr hb hG
 go_wp2
 go_ret
 exact ⟨G, rfl, hG2, HR.out, HB.out⟩
theorem enter58 (args : Array Value) (w : World) : (callFunc 58 args).run Tryz.prog w = .ok (.enter 58 args) w := by kernel_rfl
theorem start1_any (i : Int) (x : Nat) (hx : x ≤ 1000) (B : Nat) (w : World) (c0 : w.cell? ⟨B, 0, none⟩ = some (.int .i64 x)) (f0 : w.frozen? ⟨B, 0, none⟩ = false) :
   Calls Tryz.prog 58 #[.int .i64 i, .pointer (some ⟨B, 0, none⟩)] w fun e w' => e = .returned (.int .i64 (2 * ((x : Int) + 1))) ∧ w' = w.setCell ⟨B, 0, none⟩ (.int .i64 ((x : Int) + 1)) := by
 have c1 := World.cell?_setCell_same w ⟨B, 0, none⟩ (.int .i64 ((x : Int) + 1)) c0
 go_enter Tryz.func58, Tryz.ntmps58
 go_wp2_with (go_at_call 44; refine (literal_any _ (by omega) (by omega) _).mono ?_; rintro e w' ⟨rfl, rfl⟩)
 go_ret
 exact ⟨rfl, rfl⟩
end Go.Proofs.YtabnimgpednhjabGreat.Gg

namespace Go.Proofs.YtabnimgpednhjabGreat.Gg
open Go.RowKit Go.Maps Go.WideMaps
set_option maxRecDepth 100000
set_option maxHeartbeats 4000000 in
theorem made3_any (fn : FuncId) (c0 c1 c2 : Value) (f : Nat → Int) (n : Nat) (hn : n ≤ 1000) (J : Nat → World → Prop) (w : World)
   (hJ : ∀ w1, Below w.heap.size w w1 → w.heap.size < w1.heap.size → J 0 w1)
   (hst : ∀ k j w1 x, J k w1 → J k (w1.setCell ⟨w.heap.size, j, none⟩ x))
   (hent : ∀ (args : Array Value) (w : World), (callFunc fn args).run Tryz.prog w = .ok (.enter fn args) w)
   (hcl : ∀ k, k < n → ∀ wr, w.heap.size < wr.heap.size → J k wr → Calls Tryz.prog fn #[.int .i64 k, c0, c1, c2] wr fun e w' => e = .returned (.int .i64 (f k)) ∧ J (k + 1) w' ∧ wr.heap.size ≤ w'.heap.size ∧ w'.heap[w.heap.size]? = wr.heap[w.heap.size]?) :
   Calls Tryz.prog 56 #[.int .i64 n, .func (.func fn) #[] #[c0, c1, c2]] w fun e w' => e = .returned (.slice (some ⟨w.heap.size, 0, none⟩) n n) ∧ IRow w' w.heap.size ((List.range n).map f) ∧ J n w' ∧ w.heap.size < w'.heap.size := by
 obtain ⟨w1, hmk, hrow, hb1, hlt1⟩ := make_ints n (by omega) w
 have HST := hide hst
 have HCL := hide hcl
 have HJ1 := hide (hJ w1 hb1 hlt1)
 have HR1 := hide hrow
 clear hst hcl hJ hrow
 go_enter Tryz.func56, Tryz.ntmps56
 go_wp2
 go_loopw [11] (fun i wr => ∃ k : Nat, k ≤ n ∧ i = .int .i64 k ∧ Hid (IRow wr w.heap.size (curI f n k)) ∧ Hid (J k wr) ∧ w1.heap.size ≤ wr.heap.size) (fun i _ => n - (intOf i).toNat)
 case atStart => exact ⟨0, Nat.zero_le _, rfl, by rw [curI_zero]; exact HR1.out, HJ1, Nat.le_refl _⟩
 case round =>
   obtain ⟨k, hk, rfl, HR, HJ, hsz⟩ := hrel
   have hcl := curI_len f n k hk
   by_cases hlt : k < n
   · have hki : (k : Int) < (n : Int) := by omega
     have HC := hide (HCL.out k hlt wr (by omega) HJ.out)
     have HS := hide (curI_set f n k hlt)
     go_wp2_with fail
     refine HC.out.mono ?_
     rintro e w2 ⟨rfl, hj2, hs2, hk2⟩
     have hr2 := HR.out.kept hk2
     obtain ⟨g0, g1⟩ := hr2 k (by omega)
     have HR3 := hide (hr2.set k (f k))
     rw [HS.out] at HR3
     have HJ3 := hide (HST.out (k + 1) k w2 (.int .i64 (f k)) hj2)
     generalize (curI f n k)[k]'(by omega) = old at *
     generalize f k = x at *
     clear hr2 hj2 hk2 HR HJ HC HS
     go_wp2
     go_roundw
     case rel => exact ⟨k + 1, by omega, by go_num, HR3, HJ3, by simp; omega⟩
     case measure => simp [intOf]; omega
   · obtain rfl : k = n := by omega
     rw [curI_all] at HR
     go_wp2
     go_ret
     exact ⟨rfl, HR.out, HJ.out, by omega⟩
set_option maxHeartbeats 4000000 in
theorem made4_any (fn : FuncId) (c0 c1 c2 c3 : Value) (f : Nat → Int) (n : Nat) (hn : n ≤ 1000) (J : Nat → World → Prop) (w : World)
   (hJ : ∀ w1, Below w.heap.size w w1 → w.heap.size < w1.heap.size → J 0 w1)
   (hst : ∀ k j w1 x, J k w1 → J k (w1.setCell ⟨w.heap.size, j, none⟩ x))
   (hent : ∀ (args : Array Value) (w : World), (callFunc fn args).run Tryz.prog w = .ok (.enter fn args) w)
   (hcl : ∀ k, k < n → ∀ wr, w.heap.size < wr.heap.size → J k wr → Calls Tryz.prog fn #[.int .i64 k, c0, c1, c2, c3] wr fun e w' => e = .returned (.int .i64 (f k)) ∧ J (k + 1) w' ∧ wr.heap.size ≤ w'.heap.size ∧ w'.heap[w.heap.size]? = wr.heap[w.heap.size]?) :
   Calls Tryz.prog 56 #[.int .i64 n, .func (.func fn) #[] #[c0, c1, c2, c3]] w fun e w' => e = .returned (.slice (some ⟨w.heap.size, 0, none⟩) n n) ∧ IRow w' w.heap.size ((List.range n).map f) ∧ J n w' ∧ w.heap.size < w'.heap.size := by
 obtain ⟨w1, hmk, hrow, hb1, hlt1⟩ := make_ints n (by omega) w
 have HST := hide hst
 have HCL := hide hcl
 have HJ1 := hide (hJ w1 hb1 hlt1)
 have HR1 := hide hrow
 clear hst hcl hJ hrow
 go_enter Tryz.func56, Tryz.ntmps56
 go_wp2
 go_loopw [11] (fun i wr => ∃ k : Nat, k ≤ n ∧ i = .int .i64 k ∧ Hid (IRow wr w.heap.size (curI f n k)) ∧ Hid (J k wr) ∧ w1.heap.size ≤ wr.heap.size) (fun i _ => n - (intOf i).toNat)
 case atStart => exact ⟨0, Nat.zero_le _, rfl, by rw [curI_zero]; exact HR1.out, HJ1, Nat.le_refl _⟩
 case round =>
   obtain ⟨k, hk, rfl, HR, HJ, hsz⟩ := hrel
   have hcl := curI_len f n k hk
   by_cases hlt : k < n
   · have hki : (k : Int) < (n : Int) := by omega
     have HC := hide (HCL.out k hlt wr (by omega) HJ.out)
     have HS := hide (curI_set f n k hlt)
     go_wp2_with fail
     refine HC.out.mono ?_
     rintro e w2 ⟨rfl, hj2, hs2, hk2⟩
     have hr2 := HR.out.kept hk2
     obtain ⟨g0, g1⟩ := hr2 k (by omega)
     have HR3 := hide (hr2.set k (f k))
     rw [HS.out] at HR3
     have HJ3 := hide (HST.out (k + 1) k w2 (.int .i64 (f k)) hj2)
     generalize (curI f n k)[k]'(by omega) = old at *
     generalize f k = x at *
     clear hr2 hj2 hk2 HR HJ HC HS
     go_wp2
     go_roundw
     case rel => exact ⟨k + 1, by omega, by go_num, HR3, HJ3, by simp; omega⟩
     case measure => simp [intOf]; omega
   · obtain rfl : k = n := by omega
     rw [curI_all] at HR
     go_wp2
     go_ret
     exact ⟨rfl, HR.out, HJ.out, by omega⟩
end Go.Proofs.YtabnimgpednhjabGreat.Gg

namespace Go.Proofs.YtabnimgpednhjabGreat.Gg
open Go.RowKit Go.Maps Go.WideMaps
set_option maxRecDepth 100000
theorem enter96 (args : Array Value) (w : World) : (callFunc 96 args).run Tryz.prog w = .ok (.enter 96 args) w := by kernel_rfl
set_option maxHeartbeats 4000000 in
theorem op96_any {w : World} {base Pb M B : Nat} {v : Value} {n : Nat} {ps : Gr} (h : Bs w base Pb M B v n ps) (hl : ps.length < 1000000) {bb bx by' px py ox oy lx ly cx cy : Nat} {k : Nat} {p q : Int}
   (hp : Val n ps p) (hq : Val n ps q) (b0 : w.cell? ⟨bb, 0, none⟩ = some (.pointer (some ⟨Pb, 0, none⟩))) (b1 : w.cell? ⟨bx, 0, none⟩ = some (.slice (some ⟨px, ox, none⟩) lx cx)) (b2 : w.cell? ⟨by', 0, none⟩ = some (.slice (some ⟨py, oy, none⟩) ly cy))
   (hkx : k < lx) (hky : k < ly) (x0 : w.cell? ⟨px, ox + k, none⟩ = some (.int .i64 p)) (y0 : w.cell? ⟨py, oy + k, none⟩ = some (.int .i64 q)) (a0 : Apart M B v bb) (a1 : Apart M B v bx) (a2 : Apart M B v by') (a3 : Apart M B v px) (a4 : Apart M B v py) :
   Calls Tryz.prog 96 #[.int .i64 k, .pointer (some ⟨bb, 0, none⟩), .pointer (some ⟨bx, 0, none⟩), .pointer (some ⟨by', 0, none⟩)] w (Made w base Pb M B v n (bothG n p q ps)) := by
 have HC := hide (fun (w1 : World) (hb : Bs w1 base Pb M B v n ps) => both_any hb hl hp hq)
 have HH := hide h
 have HA := hide (And.intro a0 (And.intro a1 (And.intro a2 (And.intro a3 a4))))
 have hkx' : (k : Int) < (lx : Int) := by omega
 have hky' : (k : Int) < (ly : Int) := by omega
 unfold Made at *
 generalize bothG n p q ps = R at *
 obtain ⟨L, qs⟩ := R
 simp only at HC ⊢
 clear h hp hq a0 a1 a2 a3 a4 hkx hky
 go_enter Tryz.func96, Tryz.ntmps96
 go_wp2_with fail
 go_region_held3 (fun w' => w'.cell? ⟨bb, 0, none⟩ = some (.pointer (some ⟨Pb, 0, none⟩)) ∧ w'.cell? ⟨bx, 0, none⟩ = some (.slice (some ⟨px, ox, none⟩) lx cx) ∧ w'.cell? ⟨by', 0, none⟩ = some (.slice (some ⟨py, oy, none⟩) ly cy) ∧ w'.cell? ⟨px, ox + k, none⟩ = some (.int .i64 p) ∧ w'.cell? ⟨py, oy + k, none⟩ = some (.int .i64 q))
   (first | exact ⟨b0, b1, b2, x0, y0⟩ | exact ⟨hgn.cell b0 HA.out.1, hgn.cell b1 HA.out.2.1, hgn.cell b2 HA.out.2.2.1, hgn.cell x0 HA.out.2.2.2.1, hgn.cell y0 HA.out.2.2.2.2⟩ | go_keep)
   ((go_at_call 97; with_reducible refine (HC.out _ (HH.out.later (Below.refl _ _).drew)).mono ?_; rintro e w1 ⟨v1, rfl, hbs, hgn⟩))
 have HR := hide (And.intro hbs ((gon_quiet (Below.refl _ _).drew (Below.refl _ _).drew).trans hgn))
 clear hbs hgn
 go_wp2
 go_ret
 exact ⟨v1, rfl, HR.out.1, HR.out.2⟩
theorem enter98 (args : Array Value) (w : World) : (callFunc 98 args).run Tryz.prog w = .ok (.enter 98 args) w := by kernel_rfl
set_option maxHeartbeats 4000000 in
theorem op98_any {w : World} {base Pb M B : Nat} {v : Value} {n : Nat} {ps : Gr} (h : Bs w base Pb M B v n ps) (hl : ps.length < 1000000) {bb bx by' px py ox oy lx ly cx cy : Nat} {k : Nat} {p q : Int}
   (hp : Val n ps p) (hq : Val n ps q) (b0 : w.cell? ⟨bb, 0, none⟩ = some (.pointer (some ⟨Pb, 0, none⟩))) (b1 : w.cell? ⟨bx, 0, none⟩ = some (.slice (some ⟨px, ox, none⟩) lx cx)) (b2 : w.cell? ⟨by', 0, none⟩ = some (.slice (some ⟨py, oy, none⟩) ly cy))
   (hkx : k < lx) (hky : k < ly) (x0 : w.cell? ⟨px, ox + k, none⟩ = some (.int .i64 p)) (y0 : w.cell? ⟨py, oy + k, none⟩ = some (.int .i64 q)) (a0 : Apart M B v bb) (a1 : Apart M B v bx) (a2 : Apart M B v by') (a3 : Apart M B v px) (a4 : Apart M B v py) :
   Calls Tryz.prog 98 #[.int .i64 k, .pointer (some ⟨bb, 0, none⟩), .pointer (some ⟨bx, 0, none⟩), .pointer (some ⟨by', 0, none⟩)] w (Made w base Pb M B v n (eitherG n p q ps)) := by
 have HC := hide (fun (w1 : World) (hb : Bs w1 base Pb M B v n ps) => either_any hb hl hp hq)
 have HH := hide h
 have HA := hide (And.intro a0 (And.intro a1 (And.intro a2 (And.intro a3 a4))))
 have hkx' : (k : Int) < (lx : Int) := by omega
 have hky' : (k : Int) < (ly : Int) := by omega
 unfold Made at *
 generalize eitherG n p q ps = R at *
 obtain ⟨L, qs⟩ := R
 simp only at HC ⊢
 clear h hp hq a0 a1 a2 a3 a4 hkx hky
 go_enter Tryz.func98, Tryz.ntmps98
 go_wp2_with fail
 go_region_held3 (fun w' => w'.cell? ⟨bb, 0, none⟩ = some (.pointer (some ⟨Pb, 0, none⟩)) ∧ w'.cell? ⟨bx, 0, none⟩ = some (.slice (some ⟨px, ox, none⟩) lx cx) ∧ w'.cell? ⟨by', 0, none⟩ = some (.slice (some ⟨py, oy, none⟩) ly cy) ∧ w'.cell? ⟨px, ox + k, none⟩ = some (.int .i64 p) ∧ w'.cell? ⟨py, oy + k, none⟩ = some (.int .i64 q))
   (first | exact ⟨b0, b1, b2, x0, y0⟩ | exact ⟨hgn.cell b0 HA.out.1, hgn.cell b1 HA.out.2.1, hgn.cell b2 HA.out.2.2.1, hgn.cell x0 HA.out.2.2.2.1, hgn.cell y0 HA.out.2.2.2.2⟩ | go_keep)
   ((go_at_call 99; with_reducible refine (HC.out _ (HH.out.later (Below.refl _ _).drew)).mono ?_; rintro e w1 ⟨v1, rfl, hbs, hgn⟩))
 have HR := hide (And.intro hbs ((gon_quiet (Below.refl _ _).drew (Below.refl _ _).drew).trans hgn))
 clear hbs hgn
 go_wp2
 go_ret
 exact ⟨v1, rfl, HR.out.1, HR.out.2⟩
theorem enter100 (args : Array Value) (w : World) : (callFunc 100 args).run Tryz.prog w = .ok (.enter 100 args) w := by kernel_rfl
set_option maxHeartbeats 4000000 in
theorem op100_any {w : World} {base Pb M B : Nat} {v : Value} {n : Nat} {ps : Gr} (h : Bs w base Pb M B v n ps) (hl : ps.length + 2 < 1000000) {bb bx by' px py ox oy lx ly cx cy : Nat} {k : Nat} {p q : Int}
   (hp : Val n ps p) (hq : Val n ps q) (b0 : w.cell? ⟨bb, 0, none⟩ = some (.pointer (some ⟨Pb, 0, none⟩))) (b1 : w.cell? ⟨bx, 0, none⟩ = some (.slice (some ⟨px, ox, none⟩) lx cx)) (b2 : w.cell? ⟨by', 0, none⟩ = some (.slice (some ⟨py, oy, none⟩) ly cy))
   (hkx : k < lx) (hky : k < ly) (x0 : w.cell? ⟨px, ox + k, none⟩ = some (.int .i64 p)) (y0 : w.cell? ⟨py, oy + k, none⟩ = some (.int .i64 q)) (a0 : Apart M B v bb) (a1 : Apart M B v bx) (a2 : Apart M B v by') (a3 : Apart M B v px) (a4 : Apart M B v py) :
   Calls Tryz.prog 100 #[.int .i64 k, .pointer (some ⟨bb, 0, none⟩), .pointer (some ⟨bx, 0, none⟩), .pointer (some ⟨by', 0, none⟩)] w (Made w base Pb M B v n (differG n p q ps)) := by
 have HC := hide (fun (w1 : World) (hb : Bs w1 base Pb M B v n ps) => differ_any hb hl hp hq)
 have HH := hide h
 have HA := hide (And.intro a0 (And.intro a1 (And.intro a2 (And.intro a3 a4))))
 have hkx' : (k : Int) < (lx : Int) := by omega
 have hky' : (k : Int) < (ly : Int) := by omega
 unfold Made at *
 generalize differG n p q ps = R at *
 obtain ⟨L, qs⟩ := R
 simp only at HC ⊢
 clear h hp hq a0 a1 a2 a3 a4 hkx hky
 go_enter Tryz.func100, Tryz.ntmps100
 go_wp2_with fail
 go_region_held3 (fun w' => w'.cell? ⟨bb, 0, none⟩ = some (.pointer (some ⟨Pb, 0, none⟩)) ∧ w'.cell? ⟨bx, 0, none⟩ = some (.slice (some ⟨px, ox, none⟩) lx cx) ∧ w'.cell? ⟨by', 0, none⟩ = some (.slice (some ⟨py, oy, none⟩) ly cy) ∧ w'.cell? ⟨px, ox + k, none⟩ = some (.int .i64 p) ∧ w'.cell? ⟨py, oy + k, none⟩ = some (.int .i64 q))
   (first | exact ⟨b0, b1, b2, x0, y0⟩ | exact ⟨hgn.cell b0 HA.out.1, hgn.cell b1 HA.out.2.1, hgn.cell b2 HA.out.2.2.1, hgn.cell x0 HA.out.2.2.2.1, hgn.cell y0 HA.out.2.2.2.2⟩ | go_keep)
   ((go_at_call 101; with_reducible refine (HC.out _ (HH.out.later (Below.refl _ _).drew)).mono ?_; rintro e w1 ⟨v1, rfl, hbs, hgn⟩))
 have HR := hide (And.intro hbs ((gon_quiet (Below.refl _ _).drew (Below.refl _ _).drew).trans hgn))
 clear hbs hgn
 go_wp2
 go_ret
 exact ⟨v1, rfl, HR.out.1, HR.out.2⟩
end Go.Proofs.YtabnimgpednhjabGreat.Gg

namespace Go.Proofs.YtabnimgpednhjabGreat.Gg
open Go.RowKit
set_option maxRecDepth 100000
def runS {σ : Type} (st : Nat → σ → Gr → Int × σ × Gr) (s : σ) (ps : Gr) : Nat → List Int × σ × Gr
 | 0 => ([], s, ps)
 | k + 1 => ((runS st s ps k).1 ++ [(st k (runS st s ps k).2.1 (runS st s ps k).2.2).1], (st k (runS st s ps k).2.1 (runS st s ps k).2.2).2)
theorem runS_map {σ : Type} (st : Nat → σ → Gr → Int × σ × Gr) (s : σ) (ps : Gr) (k : Nat) : (runS st s ps k).1 = (List.range k).map fun i => (st i (runS st s ps i).2.1 (runS st s ps i).2.2).1 := by
 induction k with
 | zero => rfl
 | succ k ih => rw [List.range_succ, List.map_append, ← ih]; rfl
theorem runS_len {σ : Type} (st : Nat → σ → Gr → Int × σ × Gr) (s : σ) (ps : Gr) (k : Nat) : (runS st s ps k).1.length = k := by rw [runS_map]; simp
def sems (ps : Gr) (bs : List Bool) (l : List Int) : List Bool := l.map (sem ps bs)
def Vals (n : Nat) (ps : Gr) (l : List Int) : Prop := ∀ x ∈ l, Val n ps x
theorem Ext.vals {n k : Nat} {ps qs : Gr} (h : Ext n k ps qs) {l : List Int} (hl : Vals n ps l) : Vals n qs l := fun x hx => h.val (hl x hx)
theorem Ext.sems {n k : Nat} {ps qs : Gr} (h : Ext n k ps qs) {bs : List Bool} (hb : bs.length = n) {l : List Int} (hl : Vals n ps l) : sems qs bs l = Gg.sems ps bs l :=
 List.map_congr_left fun x hx => h.same bs hb x (hl x hx)
structure DoesL (n k : Nat) (ps : Gr) (r : List Int × Gr) (f : List Bool → List Bool) : Prop where
 ext : Ext n k ps r.2
 vals : Vals n r.2 r.1
 tells : ∀ bs : List Bool, bs.length = n → sems r.2 bs r.1 = f bs
def plainS (g : Nat → Gr → Int × Gr) : Nat → Unit → Gr → Int × Unit × Gr := fun k _ ps => ((g k ps).1, (), (g k ps).2)
theorem plain_does {n c len : Nat} {ps : Gr} (hg : chkE n ps = 0) (g : Nat → Gr → Int × Gr) (F : Nat → List Bool → Bool) 
   (h : ∀ k qs, k < len → Ext n (c * k) ps qs → Does n c qs (g k qs) (F k)) : ∀ k, k ≤ len → DoesL n (c * k) ps ((runS (plainS g) () ps k).1, (runS (plainS g) () ps k).2.2) (fun bs => (List.range k).map fun i => F i bs) := by
 intro k
 induction k with
 | zero => intro _; exact ⟨Ext.refl hg, fun x hx => absurd hx List.not_mem_nil, fun _ _ => rfl⟩
 | succ k ih =>
   intro hk
   have h1 := ih (by omega)
   have h2 := h k _ (by omega) h1.ext
   refine ⟨(h1.ext.trans h2.ext).more (by rw [Nat.mul_succ]; exact Nat.le_refl _), fun x hx => ?_, fun bs hb => ?_⟩
   · rcases List.mem_append.1 hx with hx | hx
     · exact h2.ext.val (h1.vals x hx)
     · rw [List.mem_singleton.1 hx]; exact h2.val
   · show sems _ bs ((runS (plainS g) () ps k).1 ++ [_]) = _
     unfold sems
     rw [List.map_append, List.range_succ, List.map_append]
     congr 1
     · exact (h2.ext.sems hb h1.vals).trans (h1.tells bs hb)
     · exact congrArg (fun b => [b]) (h2.tells bs hb)
end Go.Proofs.YtabnimgpednhjabGreat.Gg

namespace Go.Proofs.YtabnimgpednhjabGreat.Gg
open Go.RowKit Go.Maps Go.WideMaps
set_option maxRecDepth 100000
def LA (w : World) (M B : Nat) (v : Value) (p : Option Addr) (l : List Int) : Prop := IntsAt w p l ∧ ∀ g off, p = some ⟨g, off, none⟩ → 0 < l.length → Apart M B v g
theorem LA.gon {base M B : Nat} {w w1 : World} {v v1 : Value} {p : Option Addr} {l : List Int} (h : LA w M B v p l) (hg : Gon base M B w v w1 v1) : LA w1 M B v1 p l := by
 refine ⟨fun h0 => ?_, fun g off hp h0 => ?_⟩
 · obtain ⟨g, off, hp, hc⟩ := h.1 h0
   have ha := h.2 g off hp h0
   exact ⟨g, off, hp, fun i hi => hg.cell (hc i hi) ha⟩
 · obtain ⟨g', off', hp', hc⟩ := h.1 h0
   rw [hp] at hp'
   cases hp'
   exact (hg.far _ (World.block_lt_of_cell? _ _ (hc 0 h0)) (h.2 g off hp h0)).2
theorem LA.later {w w1 : World} {M B : Nat} {v : Value} {p : Option Addr} {l : List Int} (h : LA w M B v p l) (hb : Below w.heap.size w w1) : LA w1 M B v p l := ⟨h.1.later hb, h.2⟩
theorem Bs.set {w : World} {base Pb M B : Nat} {v : Value} {n : Nat} {ps : Gr} (h : Bs w base Pb M B v n ps) {q : Addr} {x : Value} (ha : Apart M B v q.block) (hp : q.block ≠ Pb) : Bs (w.setCell q x) base Pb M B v n ps := by
 obtain ⟨D, h1, h2⟩ := h.bm.map
 have hm := h.bm.mem
 exact ⟨⟨⟨cell_set_far hm.c0 (fun e => ha.1 e.symm), cell_set_far hm.c1 (fun e => ha.1 e.symm), cell_set_far hm.c2 (fun e => ha.1 e.symm), by rw [World.frozen?_setCell]; exact hm.f1, owns_set hm.row ha.2.2, hm.hM, hm.hB, hm.ne, hm.nv, hm.nb⟩,
   ⟨D, h1.setCell (fun e => ha.2.1 e.symm) _, h2⟩, h.bm.wf⟩, cell_set_far h.p0 (fun e => hp e.symm), h.ap, by simpa using h.hb, h.good⟩
def MadeL (w : World) (base Pb M B : Nat) (v : Value) (n len : Nat) (r : List Int × Gr) (e : Ending) (w' : World) : Prop :=
 ∃ v', e = .returned (.slice (some ⟨w.heap.size, 0, none⟩) len len) ∧ IRow w' w.heap.size r.1 ∧ Bs w' base Pb M B v' n r.2 ∧ Gon base M B w v w' v' ∧ Apart M B v' w.heap.size
theorem Gon.set {base M B : Nat} {w w1 : World} {v v1 : Value} (h : Gon base M B w v w1 v1) (hb : base ≤ w.heap.size) {j : Nat} {x : Value} : Gon base M B w v (w1.setCell ⟨w.heap.size, j, none⟩ x) v1 :=
 ⟨h.bel.setCell (p := ⟨w.heap.size, j, none⟩) hb x, fun g hg ha => ⟨by rw [Below.heap_setCell _ _ _ _ (by simp; omega)]; exact (h.far g hg ha).1, (h.far g hg ha).2⟩⟩
def zipS (g : Int → Int → Gr → Int × Gr) (xs ys : List Int) : Nat → Unit → Gr → Int × Unit × Gr := plainS fun k => g (xs.getD k 0) (ys.getD k 0)
theorem zip_does {n c len : Nat} {ps : Gr} (hg : chkE n ps = 0) (g : Int → Int → Gr → Int × Gr) (f : Bool → Bool → Bool) {lim : Nat} (h : ∀ {qs : Gr}, chkE n qs = 0 → qs.length + lim < 1000000 → ∀ p q, Val n qs p → Val n qs q → Does n c qs (g p q qs) (fun bs => f (sem qs bs p) (sem qs bs q))) {xs ys : List Int} (hlx : len ≤ xs.length) (hly : len ≤ ys.length) (hlen : ps.length + c * len + lim < 1000000 + c) (hvx : Vals n ps xs) (hvy : Vals n ps ys) :
   ∀ k, k ≤ len → DoesL n (c * k) ps ((runS (zipS g xs ys) () ps k).1, (runS (zipS g xs ys) () ps k).2.2) (fun bs => (List.range k).map fun i => f (sem ps bs (xs.getD i 0)) (sem ps bs (ys.getD i 0))) := by
 refine plain_does hg (fun k => g (xs.getD k 0) (ys.getD k 0)) (fun i bs => f (sem ps bs (xs.getD i 0)) (sem ps bs (ys.getD i 0))) (fun k qs hk hq => ?_)
 have gx : xs.getD k 0 = xs[k]'(by omega) := by rw [List.getD, List.getElem?_eq_getElem (by omega)]; rfl
 have gy : ys.getD k 0 = ys[k]'(by omega) := by rw [List.getD, List.getElem?_eq_getElem (by omega)]; rfl
 have vx : Val n ps (xs.getD k 0) := by rw [gx]; exact hvx _ (List.getElem_mem _)
 have vy : Val n ps (ys.getD k 0) := by rw [gy]; exact hvy _ (List.getElem_mem _)
 have hl2 := hq.len.2
 have hkc : c * k + c ≤ c * len := by rw [← Nat.mul_succ]; exact Nat.mul_le_mul_left _ (by omega)
 have hh := h hq.good (by omega) _ _ (hq.val vx) (hq.val vy)
 exact ⟨hh.ext, hh.val, fun bs hb => by rw [hh.tells bs hb, hq.same bs hb _ vx, hq.same bs hb _ vy]⟩
end Go.Proofs.YtabnimgpednhjabGreat.Gg

namespace Go.Proofs.YtabnimgpednhjabGreat.Gg
open Go.RowKit Go.Maps Go.WideMaps
set_option maxRecDepth 100000
set_option maxHeartbeats 4000000 in
theorem zip96_any {w : World} {base Pb M B : Nat} {v : Value} {n : Nat} {ps : Gr} (h : Bs w base Pb M B v n ps) {xs ys : List Int} {px py : Option Addr} {bb bx by' cx cy len : Nat} (hlx : len ≤ xs.length) (hly : len ≤ ys.length) (hn : len ≤ 8) (hl : ps.length + 1 * len + 3 < 1000000)
   (hvx : Vals n ps xs) (hvy : Vals n ps ys) (b0 : w.cell? ⟨bb, 0, none⟩ = some (.pointer (some ⟨Pb, 0, none⟩))) (b1 : w.cell? ⟨bx, 0, none⟩ = some (.slice px xs.length cx)) (b2 : w.cell? ⟨by', 0, none⟩ = some (.slice py ys.length cy))
   (hX : LA w M B v px xs) (hY : LA w M B v py ys) (a0 : Apart M B v bb) (a1 : Apart M B v bx) (a2 : Apart M B v by') :
   Calls Tryz.prog 56 #[.int .i64 len, .func (.func 96) #[] #[.pointer (some ⟨bb, 0, none⟩), .pointer (some ⟨bx, 0, none⟩), .pointer (some ⟨by', 0, none⟩)]] w
     (MadeL w base Pb M B v n len ((runS (zipS (bothG n) xs ys) () ps len).1, (runS (zipS (bothG n) xs ys) () ps len).2.2)) := by
 have hd := zip_does (lim := 0) h.good (bothG n) (fun a b => a && b) (fun {qs} hg hq p q hp hq' => both_does hg hq hp hq') hlx hly (by omega) hvx hvy
 have hw := World.block_lt_of_cell? _ _ b0
 refine (made3_any 96 _ _ _ (fun k => (zipS (bothG n) xs ys k () (runS (zipS (bothG n) xs ys) () ps k).2.2).1) len (by omega)
   (fun k wr => w.heap.size < wr.heap.size ∧ ∃ v', Bs wr base Pb M B v' n (runS (zipS (bothG n) xs ys) () ps k).2.2 ∧ Gon base M B w v wr v' ∧ Apart M B v' w.heap.size) w ?_ ?_ enter96 ?_).mono ?_
 · intro w1 hb hlt
   exact ⟨hlt, v, h.later hb, gon_quiet (hb.mono h.hb) hb, h.bm.new (Nat.le_refl _)⟩
 · rintro k j w1 x ⟨hlt, v', hbs, hgn, hap⟩
   exact ⟨by simpa using hlt, v', hbs.set hap (fun e => by have := World.block_lt_of_cell? _ _ h.p0; simp only at this e; omega), hgn.set h.hb, hap⟩
 · rintro k hk wr hlt ⟨_, v', hbs, hgn, hap⟩
   have hx := hX.gon hgn
   have hy := hY.gon hgn
   obtain ⟨gx, ox, rfl, hcx⟩ := hx.1 (by omega)
   obtain ⟨gy, oy, rfl, hcy⟩ := hy.1 (by omega)
   have e1 := hd k (by omega)
   have l1 : ((runS (zipS (bothG n) xs ys) () ps k).2.2).length ≤ ps.length + 1 * k := e1.ext.len.2
   have hk1 : 1 * k + 1 ≤ 1 * len := by omega
   have gx1 : xs.getD k 0 = xs[k]'(by omega) := by rw [List.getD, List.getElem?_eq_getElem (by omega)]; rfl
   have gy1 : ys.getD k 0 = ys[k]'(by omega) := by rw [List.getD, List.getElem?_eq_getElem (by omega)]; rfl
   refine (op96_any hbs (by omega) (e1.ext.val (hvx _ (List.getElem_mem (h := (by omega : k < xs.length))))) (e1.ext.val (hvy _ (List.getElem_mem (h := (by omega : k < ys.length))))) (hgn.cell b0 a0) (hgn.cell b1 a1) (hgn.cell b2 a2) (by omega) (by omega) (hcx k (by omega)) (hcy k (by omega)) (hgn.far _ hw a0).2 (hgn.far _ (World.block_lt_of_cell? _ _ b1) a1).2 (hgn.far _ (World.block_lt_of_cell? _ _ b2) a2).2 (hx.2 _ _ rfl (by omega)) (hy.2 _ _ rfl (by omega))).mono ?_
   rintro e w' ⟨v2, rfl, hbs2, hgn2⟩
   have ha2 := hgn2.far _ hlt hap
   refine ⟨by rw [zipS]; dsimp only [plainS]; rw [gx1, gy1], ⟨Nat.lt_of_lt_of_le hlt hgn2.bel.size, v2, ?_, hgn.trans hgn2, ha2.2⟩, hgn2.bel.size, ha2.1⟩
   show Bs w' base Pb M B v2 n ((zipS (bothG n) xs ys k () _).2.2)
   rw [zipS]
   dsimp only [plainS]
   rw [gx1, gy1]
   exact hbs2
 · rintro e w' ⟨rfl, hrow, ⟨hlt, v', hbs, hgn, hap⟩, _⟩
   refine ⟨v', rfl, by rw [runS_map]; exact hrow, hbs, hgn, hap⟩
set_option maxHeartbeats 4000000 in
theorem zip98_any {w : World} {base Pb M B : Nat} {v : Value} {n : Nat} {ps : Gr} (h : Bs w base Pb M B v n ps) {xs ys : List Int} {px py : Option Addr} {bb bx by' cx cy len : Nat} (hlx : len ≤ xs.length) (hly : len ≤ ys.length) (hn : len ≤ 8) (hl : ps.length + 1 * len + 3 < 1000000)
   (hvx : Vals n ps xs) (hvy : Vals n ps ys) (b0 : w.cell? ⟨bb, 0, none⟩ = some (.pointer (some ⟨Pb, 0, none⟩))) (b1 : w.cell? ⟨bx, 0, none⟩ = some (.slice px xs.length cx)) (b2 : w.cell? ⟨by', 0, none⟩ = some (.slice py ys.length cy))
   (hX : LA w M B v px xs) (hY : LA w M B v py ys) (a0 : Apart M B v bb) (a1 : Apart M B v bx) (a2 : Apart M B v by') :
   Calls Tryz.prog 56 #[.int .i64 len, .func (.func 98) #[] #[.pointer (some ⟨bb, 0, none⟩), .pointer (some ⟨bx, 0, none⟩), .pointer (some ⟨by', 0, none⟩)]] w
     (MadeL w base Pb M B v n len ((runS (zipS (eitherG n) xs ys) () ps len).1, (runS (zipS (eitherG n) xs ys) () ps len).2.2)) := by
 have hd := zip_does (lim := 0) h.good (eitherG n) (fun a b => a || b) (fun {qs} hg hq p q hp hq' => either_does hg hq hp hq') hlx hly (by omega) hvx hvy
 have hw := World.block_lt_of_cell? _ _ b0
 refine (made3_any 98 _ _ _ (fun k => (zipS (eitherG n) xs ys k () (runS (zipS (eitherG n) xs ys) () ps k).2.2).1) len (by omega)
   (fun k wr => w.heap.size < wr.heap.size ∧ ∃ v', Bs wr base Pb M B v' n (runS (zipS (eitherG n) xs ys) () ps k).2.2 ∧ Gon base M B w v wr v' ∧ Apart M B v' w.heap.size) w ?_ ?_ enter98 ?_).mono ?_
 · intro w1 hb hlt
   exact ⟨hlt, v, h.later hb, gon_quiet (hb.mono h.hb) hb, h.bm.new (Nat.le_refl _)⟩
 · rintro k j w1 x ⟨hlt, v', hbs, hgn, hap⟩
   exact ⟨by simpa using hlt, v', hbs.set hap (fun e => by have := World.block_lt_of_cell? _ _ h.p0; simp only at this e; omega), hgn.set h.hb, hap⟩
 · rintro k hk wr hlt ⟨_, v', hbs, hgn, hap⟩
   have hx := hX.gon hgn
   have hy := hY.gon hgn
   obtain ⟨gx, ox, rfl, hcx⟩ := hx.1 (by omega)
   obtain ⟨gy, oy, rfl, hcy⟩ := hy.1 (by omega)
   have e1 := hd k (by omega)
   have l1 : ((runS (zipS (eitherG n) xs ys) () ps k).2.2).length ≤ ps.length + 1 * k := e1.ext.len.2
   have hk1 : 1 * k + 1 ≤ 1 * len := by omega
   have gx1 : xs.getD k 0 = xs[k]'(by omega) := by rw [List.getD, List.getElem?_eq_getElem (by omega)]; rfl
   have gy1 : ys.getD k 0 = ys[k]'(by omega) := by rw [List.getD, List.getElem?_eq_getElem (by omega)]; rfl
   refine (op98_any hbs (by omega) (e1.ext.val (hvx _ (List.getElem_mem (h := (by omega : k < xs.length))))) (e1.ext.val (hvy _ (List.getElem_mem (h := (by omega : k < ys.length))))) (hgn.cell b0 a0) (hgn.cell b1 a1) (hgn.cell b2 a2) (by omega) (by omega) (hcx k (by omega)) (hcy k (by omega)) (hgn.far _ hw a0).2 (hgn.far _ (World.block_lt_of_cell? _ _ b1) a1).2 (hgn.far _ (World.block_lt_of_cell? _ _ b2) a2).2 (hx.2 _ _ rfl (by omega)) (hy.2 _ _ rfl (by omega))).mono ?_
   rintro e w' ⟨v2, rfl, hbs2, hgn2⟩
   have ha2 := hgn2.far _ hlt hap
   refine ⟨by rw [zipS]; dsimp only [plainS]; rw [gx1, gy1], ⟨Nat.lt_of_lt_of_le hlt hgn2.bel.size, v2, ?_, hgn.trans hgn2, ha2.2⟩, hgn2.bel.size, ha2.1⟩
   show Bs w' base Pb M B v2 n ((zipS (eitherG n) xs ys k () _).2.2)
   rw [zipS]
   dsimp only [plainS]
   rw [gx1, gy1]
   exact hbs2
 · rintro e w' ⟨rfl, hrow, ⟨hlt, v', hbs, hgn, hap⟩, _⟩
   refine ⟨v', rfl, by rw [runS_map]; exact hrow, hbs, hgn, hap⟩
set_option maxHeartbeats 4000000 in
theorem zip100_any {w : World} {base Pb M B : Nat} {v : Value} {n : Nat} {ps : Gr} (h : Bs w base Pb M B v n ps) {xs ys : List Int} {px py : Option Addr} {bb bx by' cx cy len : Nat} (hlx : len ≤ xs.length) (hly : len ≤ ys.length) (hn : len ≤ 8) (hl : ps.length + 3 * len + 3 < 1000000)
   (hvx : Vals n ps xs) (hvy : Vals n ps ys) (b0 : w.cell? ⟨bb, 0, none⟩ = some (.pointer (some ⟨Pb, 0, none⟩))) (b1 : w.cell? ⟨bx, 0, none⟩ = some (.slice px xs.length cx)) (b2 : w.cell? ⟨by', 0, none⟩ = some (.slice py ys.length cy))
   (hX : LA w M B v px xs) (hY : LA w M B v py ys) (a0 : Apart M B v bb) (a1 : Apart M B v bx) (a2 : Apart M B v by') :
   Calls Tryz.prog 56 #[.int .i64 len, .func (.func 100) #[] #[.pointer (some ⟨bb, 0, none⟩), .pointer (some ⟨bx, 0, none⟩), .pointer (some ⟨by', 0, none⟩)]] w
     (MadeL w base Pb M B v n len ((runS (zipS (differG n) xs ys) () ps len).1, (runS (zipS (differG n) xs ys) () ps len).2.2)) := by
 have hd := zip_does (lim := 2) h.good (differG n) (fun a b => a != b) (fun {qs} hg hq p q hp hq' => differ_does hg hq hp hq') hlx hly (by omega) hvx hvy
 have hw := World.block_lt_of_cell? _ _ b0
 refine (made3_any 100 _ _ _ (fun k => (zipS (differG n) xs ys k () (runS (zipS (differG n) xs ys) () ps k).2.2).1) len (by omega)
   (fun k wr => w.heap.size < wr.heap.size ∧ ∃ v', Bs wr base Pb M B v' n (runS (zipS (differG n) xs ys) () ps k).2.2 ∧ Gon base M B w v wr v' ∧ Apart M B v' w.heap.size) w ?_ ?_ enter100 ?_).mono ?_
 · intro w1 hb hlt
   exact ⟨hlt, v, h.later hb, gon_quiet (hb.mono h.hb) hb, h.bm.new (Nat.le_refl _)⟩
 · rintro k j w1 x ⟨hlt, v', hbs, hgn, hap⟩
   exact ⟨by simpa using hlt, v', hbs.set hap (fun e => by have := World.block_lt_of_cell? _ _ h.p0; simp only at this e; omega), hgn.set h.hb, hap⟩
 · rintro k hk wr hlt ⟨_, v', hbs, hgn, hap⟩
   have hx := hX.gon hgn
   have hy := hY.gon hgn
   obtain ⟨gx, ox, rfl, hcx⟩ := hx.1 (by omega)
   obtain ⟨gy, oy, rfl, hcy⟩ := hy.1 (by omega)
   have e1 := hd k (by omega)
   have l1 : ((runS (zipS (differG n) xs ys) () ps k).2.2).length ≤ ps.length + 3 * k := e1.ext.len.2
   have hk1 : 3 * k + 3 ≤ 3 * len := by omega
   have gx1 : xs.getD k 0 = xs[k]'(by omega) := by rw [List.getD, List.getElem?_eq_getElem (by omega)]; rfl
   have gy1 : ys.getD k 0 = ys[k]'(by omega) := by rw [List.getD, List.getElem?_eq_getElem (by omega)]; rfl
   refine (op100_any hbs (by omega) (e1.ext.val (hvx _ (List.getElem_mem (h := (by omega : k < xs.length))))) (e1.ext.val (hvy _ (List.getElem_mem (h := (by omega : k < ys.length))))) (hgn.cell b0 a0) (hgn.cell b1 a1) (hgn.cell b2 a2) (by omega) (by omega) (hcx k (by omega)) (hcy k (by omega)) (hgn.far _ hw a0).2 (hgn.far _ (World.block_lt_of_cell? _ _ b1) a1).2 (hgn.far _ (World.block_lt_of_cell? _ _ b2) a2).2 (hx.2 _ _ rfl (by omega)) (hy.2 _ _ rfl (by omega))).mono ?_
   rintro e w' ⟨v2, rfl, hbs2, hgn2⟩
   have ha2 := hgn2.far _ hlt hap
   refine ⟨by rw [zipS]; dsimp only [plainS]; rw [gx1, gy1], ⟨Nat.lt_of_lt_of_le hlt hgn2.bel.size, v2, ?_, hgn.trans hgn2, ha2.2⟩, hgn2.bel.size, ha2.1⟩
   show Bs w' base Pb M B v2 n ((zipS (differG n) xs ys k () _).2.2)
   rw [zipS]
   dsimp only [plainS]
   rw [gx1, gy1]
   exact hbs2
 · rintro e w' ⟨rfl, hrow, ⟨hlt, v', hbs, hgn, hap⟩, _⟩
   refine ⟨v', rfl, by rw [runS_map]; exact hrow, hbs, hgn, hap⟩
end Go.Proofs.YtabnimgpednhjabGreat.Gg
