/- The bits of a number; bits turned round. -/
import Derived.Test.YtjhkecnnhddhbaaGreatDoorBc
namespace Go.Proofs.YtjhkecnnhddhbaaGreatDoor
open Go.RowKit Go.Maps Go.WideMaps
set_option maxRecDepth 100000
set_option maxRecDepth 100000

theorem enterB83 (args : Array Value) (w : World) : (callFunc 121 args).run Tryz.prog w = .ok (.enter 121 args) w := by kernel_rfl
theorem enterB118 (args : Array Value) (w : World) : (callFunc 166 args).run Tryz.prog w = .ok (.enter 166 args) w := by kernel_rfl

theorem and_one_bits (y : Int) (h : 0 ≤ y) (h2 : y ≤ 10000000) : bits .and .i64 y 1 = y % 2 := by
  obtain ⟨A, rfl⟩ := Int.eq_ofNat_of_zero_le h
  show IntKind.i64.wrap ((BitVec.ofInt 64 (A : Int) &&& BitVec.ofInt 64 ((1 : Nat) : Int)).toNat : Int) = _
  rw [BitVec.toNat_and, toNat64 A (by omega), toNat64 1 (by omega), Nat.and_one_is_mod, IntKind.wrap_i64]
  omega
theorem pow_div (x : Int) (i : Nat) (hx : 0 ≤ x) (hx2 : x ≤ 255) : 0 ≤ x / 2 ^ i ∧ x / 2 ^ i ≤ 255 := by
  have hp : (0 : Int) < 2 ^ i := Int.pow_pos (by decide)
  refine ⟨Int.ediv_nonneg hx (Int.le_of_lt hp), ?_⟩
  exact Int.le_trans (Int.ediv_le_self _ hx) hx2

theorem const1_any (x : Int) (i : Nat) (hx : 0 ≤ x) (hx2 : x ≤ 255) (hi : i ≤ 8) (B : Nat) (w : World) (c0 : w.cell? ⟨B, 0, none⟩ = some (.int .i64 x)) :
    Calls Tryz.prog 121 #[.int .i64 i, .pointer (some ⟨B, 0, none⟩)] w fun e w' => e = .returned (.int .i64 (x / 2 ^ i % 2)) ∧ w' = w := by
  have hm : min i 64 = i := by omega
  obtain ⟨y0, y1⟩ := pow_div x i hx hx2
  have HA := hide (and_one_bits (x / 2 ^ i) y0 (by omega))
  have HM : Hid (x / 2 ^ i % 2 = 0 ∨ x / 2 ^ i % 2 = 1) := by show _ ∨ _; omega
  go_enter Tryz.func121, Tryz.ntmps121
  go_wp2
  · rename_i hq
    rw [HA.out] at hq
    have hv : x / 2 ^ i % 2 = 1 := by simpa using hq
    have HV := hide hv
    clear hv hq
    go_ret
    exact ⟨ret_int HV.out.symm, rfl⟩
  · rename_i hq
    rw [HA.out] at hq
    have hv : x / 2 ^ i % 2 = 0 := by
      rcases HM.out with h | h
      · exact h
      · rw [h] at hq; simp at hq
    have HV := hide hv
    clear hv hq
    go_ret
    exact ⟨ret_int HV.out.symm, rfl⟩

theorem turned1_any (l : List Int) (p : Option Addr) (cap : Nat) (i : Nat) (hi : i < l.length) (hl : ∀ x ∈ l, 0 ≤ x ∧ x ≤ 10000000) (hn : l.length ≤ 1000) (B : Nat) (w : World) (c0 : w.cell? ⟨B, 0, none⟩ = some (.slice p l.length cap)) (hI : IntsAt w p l) :
    Calls Tryz.prog 166 #[.int .i64 i, .pointer (some ⟨B, 0, none⟩)] w fun e w' => e = .returned (.int .i64 (turn (l.getD i 0))) ∧ w' = w := by
  obtain ⟨b, off, rfl, hc⟩ := hI (by omega)
  have c1 := hc i hi
  have hb := hl _ (List.getElem_mem hi)
  have hg : l.getD i 0 = l[i] := by simp [List.getD, List.getElem?_eq_getElem hi]
  rw [hg]
  have hki : (i : Int) < (l.length : Int) := by omega
  clear hc hg hl hI
  generalize l[i] = x at *
  have HT := hide (fun w => turn_any x hb.1 hb.2 w)
  generalize turn x = y at *
  go_enter Tryz.func166, Tryz.ntmps166
  go_wp2_with (go_at_call 68; refine (HT.out _).mono ?_; rintro e w' ⟨rfl, rfl⟩)
  go_ret
  exact ⟨rfl, rfl⟩

/-- The blocks that a list, and a variable, lie in. -/
def FarL (B : Nat) (p : Option Addr) (n : Nat) (g : Nat) : Prop := g = B ∨ (0 < n ∧ ∃ off, p = some ⟨g, off, none⟩)
theorem farL_lt {w : World} {B : Nat} {p : Option Addr} {l : List Int} (hB : B < w.heap.size) (hI : IntsAt w p l) : ∀ g, FarL B p l.length g → g < w.heap.size := fun g h => by
  rcases h with rfl | ⟨h0, off, rfl⟩
  · exact hB
  · obtain ⟨b, o, e, hc⟩ := hI h0
    cases e
    exact World.block_lt_of_cell? _ _ (hc 0 h0)
theorem cell_block {w1 w2 : World} {a : Addr} {v : Value} (h : w1.cell? a = some v) (hb : w2.heap[a.block]? = w1.heap[a.block]?) : w2.cell? a = some v := by
  rw [World.cell?_of_block (w := w1) (a := a) hb]; exact h
theorem ints_block {w1 w2 : World} {p : Option Addr} {l : List Int} (h : IntsAt w1 p l) (hb : ∀ g, (0 < l.length ∧ ∃ off, p = some ⟨g, off, none⟩) → w2.heap[g]? = w1.heap[g]?) : IntsAt w2 p l := fun h0 => by
  obtain ⟨b, o, e, hc⟩ := h h0
  exact ⟨b, o, e, fun i hi => cell_block (hc i hi) (hb b ⟨h0, o, e⟩)⟩

theorem map_getD (l : List Int) (f : Int → Int) : (List.range l.length).map (fun i => f (l.getD i 0)) = l.map f := by
  apply List.ext_getElem
  · simp
  · intro i h1 h2
    simp at h1
    simp [List.getElem?_eq_getElem h1]

set_option maxHeartbeats 2000000 in
theorem turnedB_any (l : List Int) (p : Option Addr) (cap : Nat) (hl : ∀ x ∈ l, 0 ≤ x ∧ x ≤ 10000000) (hn : l.length ≤ 1000) (w : World) (hI : IntsAt w p l) :
    Calls Tryz.prog 138 #[.slice p l.length cap] w fun e w' => ∃ G, e = .returned (.slice (some ⟨G, 0, none⟩) l.length l.length) ∧ w.heap.size ≤ G ∧ IRow w' G (l.map turn) ∧ Below w.heap.size w w' := by
  have hB0 : Below w.heap.size w (w.alloc (.cells #[.slice p l.length cap] 25)) := bal (Below.refl _ _) _
  have hM := made_any 166 (.pointer (some ⟨w.heap.size, 0, none⟩)) (fun i => turn (l.getD i 0)) l.length w.heap.size hn (FarL w.heap.size p l.length)
    (fun _ wr => wr.cell? ⟨w.heap.size, 0, none⟩ = some (.slice p l.length cap) ∧ IntsAt wr p l) (w.alloc (.cells #[.slice p l.length cap] 25)) (by simp) (farL_lt (by simp) (hI.later hB0)) ⟨by simp [go_sem], hI.later hB0⟩
    (fun _ w1 w2 h hk => ⟨cell_block h.1 (hk _ (Or.inl rfl)), ints_block h.2 (fun g hg => hk g (Or.inr hg))⟩) enterB118
    (fun k hk wr _ h => (turned1_any l p cap k hk hl hn w.heap.size wr h.1 h.2).mono fun e w' ⟨h1, h2⟩ => by
      subst h2
      exact ⟨h1, h, Below.refl _ _, fun _ _ _ => rfl⟩)
  rw [map_getD l turn] at hM
  have HM := hide hM
  have HB0 := hide hB0
  clear hM hB0
  go_enter Tryz.func138, Tryz.ntmps138
  go_wp2_with fail
  refine HM.out.mono ?_
  rintro e w1 ⟨G, rfl, hG, hr, _, hb, _⟩
  have HR := hide hr
  have HB := hide (HB0.out.trans hb)
  have hG2 : w.heap.size ≤ G := by simp at hG; omega
  clear hr hb hG
  go_wp2
  go_ret
  exact ⟨G, rfl, hG2, HR.out, HB.out⟩

/-- The bits of a number. -/
def bitsC (x : Int) (n : Nat) : List Int := (List.range n).map (fun i => x / 2 ^ i % 2)

set_option maxHeartbeats 2000000 in
theorem constant_any (x : Int) (n : Nat) (hx : 0 ≤ x) (hx2 : x ≤ 255) (hn : n ≤ 8) (w : World) :
    Calls Tryz.prog 92 #[.int .i64 x, .int .i64 n] w fun e w' => ∃ G, e = .returned (.slice (some ⟨G, 0, none⟩) n n) ∧ w.heap.size ≤ G ∧ IRow w' G (bitsC x n) ∧ Below w.heap.size w w' := by
  have hB0 : Below w.heap.size w (w.alloc (.cells #[.int .i64 x] 3)) := bal (Below.refl _ _) _
  have hM := made_any 121 (.pointer (some ⟨w.heap.size, 0, none⟩)) (fun i => x / 2 ^ i % 2) n w.heap.size (by omega) (fun g => g = w.heap.size)
    (fun _ wr => wr.cell? ⟨w.heap.size, 0, none⟩ = some (.int .i64 x)) (w.alloc (.cells #[.int .i64 x] 3)) (by simp) (fun g h => by subst h; simp) (by simp [go_sem])
    (fun _ w1 w2 h hk => cell_block h (hk _ rfl)) enterB83
    (fun k hk wr _ h => (const1_any x k hx hx2 (by omega) w.heap.size wr h).mono fun e w' ⟨h1, h2⟩ => by
      subst h2
      exact ⟨h1, h, Below.refl _ _, fun _ _ _ => rfl⟩)
  have HM := hide hM
  have HB0 := hide hB0
  clear hM hB0
  go_enter Tryz.func92, Tryz.ntmps92
  go_wp2_with fail
  refine HM.out.mono ?_
  rintro e w1 ⟨G, rfl, hG, hr, _, hb, _⟩
  have HR := hide hr
  have HB := hide (HB0.out.trans hb)
  have hG2 : w.heap.size ≤ G := by simp at hG; omega
  clear hr hb hG
  go_wp2
  go_ret
  exact ⟨G, rfl, hG2, HR.out, HB.out⟩

theorem enterB58 (args : Array Value) (w : World) : (callFunc 95 args).run Tryz.prog w = .ok (.enter 95 args) w := by kernel_rfl
/-- The next In. -/
theorem start1_any (i : Int) (x : Nat) (hx : x ≤ 1000) (B : Nat) (w : World) (c0 : w.cell? ⟨B, 0, none⟩ = some (.int .i64 x)) (f0 : w.frozen? ⟨B, 0, none⟩ = false) :
    Calls Tryz.prog 95 #[.int .i64 i, .pointer (some ⟨B, 0, none⟩)] w fun e w' => e = .returned (.int .i64 (2 * ((x : Int) + 1))) ∧ w' = w.setCell ⟨B, 0, none⟩ (.int .i64 ((x : Int) + 1)) := by
  have c1 := World.cell?_setCell_same w ⟨B, 0, none⟩ (.int .i64 ((x : Int) + 1)) c0
  go_enter Tryz.func95, Tryz.ntmps95
  go_wp2_with (go_at_call 67; refine (literal_any _ (by omega) (by omega) _).mono ?_; rintro e w' ⟨rfl, rfl⟩)
  go_ret
  exact ⟨rfl, rfl⟩

end Go.Proofs.YtjhkecnnhddhbaaGreatDoor
