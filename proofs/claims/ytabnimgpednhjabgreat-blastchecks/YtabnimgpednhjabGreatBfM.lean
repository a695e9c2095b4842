/- The bits of a number; bits turned round. -/
import Derived.Test.YtabnimgpednhjabGreatBcM
import Derived.Test.YtabnimgpednhjabGreatMe
namespace Go.Proofs.YtabnimgpednhjabGreat.Gg
open Go.RowKit Go.Maps Go.WideMaps
set_option maxRecDepth 100000

theorem enter83 (args : Array Value) (w : World) : (callFunc 83 args).run Tryz.prog w = .ok (.enter 83 args) w := by kernel_rfl
theorem enter118 (args : Array Value) (w : World) : (callFunc 118 args).run Tryz.prog w = .ok (.enter 118 args) w := by kernel_rfl

theorem and_one_bits (y : Int) (h : 0 ≤ y) (h2 : y ≤ 10000000) : bits .and .i64 y 1 = y % 2 := by
  obtain ⟨A, rfl⟩ := Int.eq_ofNat_of_zero_le h
  show IntKind.i64.wrap ((BitVec.ofInt 64 (A : Int) &&& BitVec.ofInt 64 ((1 : Nat) : Int)).toNat : Int) = _
  rw [BitVec.toNat_and, toNat64 A (by omega), toNat64 1 (by omega), Nat.and_one_is_mod, IntKind.wrap_i64]
  omega
theorem pow_div (x : Int) (i : Nat) (hx : 0 ≤ x) (hx2 : x ≤ 255) : 0 ≤ x / 2 ^ i ∧ x / 2 ^ i ≤ 255 := by
  have hp : (0 : Int) < 2 ^ i := Int.pow_pos (by decide)
  refine ⟨Int.ediv_nonneg hx (Int.le_of_lt hp), ?_⟩
  exact Int.le_trans (Int.ediv_le_self _ hx) hx2

theorem const1_any (x : Int) (i : Nat) (hx : 0 ≤ x) (hx2 : x ≤ 255) (hi : i ≤ 8) (B : Nat) (w : World) (c0 : w.cell? ⟨B, 0, none⟩ = some (.int .i64 x)) :
    Calls Tryz.prog 83 #[.int .i64 i, .pointer (some ⟨B, 0, none⟩)] w fun e w' => e = .returned (.int .i64 (x / 2 ^ i % 2)) ∧ w' = w := by
  have hm : min i 64 = i := by omega
  obtain ⟨y0, y1⟩ := pow_div x i hx hx2
  have HA := hide (and_one_bits (x / 2 ^ i) y0 (by omega))
  have HM : Hid (x / 2 ^ i % 2 = 0 ∨ x / 2 ^ i % 2 = 1) := by show _ ∨ _; omega
  go_enter Tryz.func83, Tryz.ntmps83
  go_wp2
  · rename_i hq
    rw [HA.out] at hq
    have hv : x / 2 ^ i % 2 = 1 := by simpa using hq
    have HV := hide hv
    clear hv hq
    go_ret
    exact ⟨ret_int HV.out.symm, rfl⟩
  · rename_i hq
    rw [HA.out] at hq
    have hv : x / 2 ^ i % 2 = 0 := by
      rcases HM.out with h | h
      · exact h
      · rw [h] at hq; simp at hq
    have HV := hide hv
    clear hv hq
    go_ret
    exact ⟨ret_int HV.out.symm, rfl⟩

theorem turned1_any (l : List Int) (p : Option Addr) (cap : Nat) (i : Nat) (hi : i < l.length) (hl : ∀ x ∈ l, 0 ≤ x ∧ x ≤ 10000000) (hn : l.length ≤ 1000) (B : Nat) (w : World) (c0 : w.cell? ⟨B, 0, none⟩ = some (.slice p l.length cap)) (hI : IntsAt w p l) :
    Calls Tryz.prog 118 #[.int .i64 i, .pointer (some ⟨B, 0, none⟩)] w fun e w' => e = .returned (.int .i64 (turn (l.getD i 0))) ∧ w' = w := by
  obtain ⟨b, off, rfl, hc⟩ := hI (by omega)
  have c1 := hc i hi
  have hb := hl _ (List.getElem_mem hi)
  have hg : l.getD i 0 = l[i] := by simp [List.getD, List.getElem?_eq_getElem hi]
  rw [hg]
  have hki : (i : Int) < (l.length : Int) := by omega
  clear hc hg hl hI
  generalize l[i] = x at *
  have HT := hide (fun w => turn_any x hb.1 hb.2 w)
  generalize turn x = y at *
  go_enter Tryz.func118, Tryz.ntmps118
  go_wp2_with (go_at_call 119; refine (HT.out _).mono ?_; rintro e w' ⟨rfl, rfl⟩)
  go_ret
  exact ⟨rfl, rfl⟩

/-- The blocks that a list, and a variable, lie in. -/
def FarL (B : Nat) (p : Option Addr) (n : Nat) (g : Nat) : Prop := g = B ∨ (0 < n ∧ ∃ off, p = some ⟨g, off, none⟩)
theorem farL_lt {w : World} {B : Nat} {p : Option Addr} {l : List Int} (hB : B < w.heap.size) (hI : IntsAt w p l) : ∀ g, FarL B p l.length g → g < w.heap.size := fun g h => by
  rcases h with rfl | ⟨h0, off, rfl⟩
  · exact hB
  · obtain ⟨b, o, e, hc⟩ := hI h0
    cases e
    exact World.block_lt_of_cell? _ _ (hc 0 h0)
theorem cell_block {w1 w2 : World} {a : Addr} {v : Value} (h : w1.cell? a = some v) (hb : w2.heap[a.block]? = w1.heap[a.block]?) : w2.cell? a = some v := by
  rw [World.cell?_of_block (w := w1) (a := a) hb]; exact h
theorem ints_block {w1 w2 : World} {p : Option Addr} {l : List Int} (h : IntsAt w1 p l) (hb : ∀ g, (0 < l.length ∧ ∃ off, p = some ⟨g, off, none⟩) → w2.heap[g]? = w1.heap[g]?) : IntsAt w2 p l := fun h0 => by
  obtain ⟨b, o, e, hc⟩ := h h0
  exact ⟨b, o, e, fun i hi => cell_block (hc i hi) (hb b ⟨h0, o, e⟩)⟩

theorem map_getD (l : List Int) (f : Int → Int) : (List.range l.length).map (fun i => f (l.getD i 0)) = l.map f := by
  apply List.ext_getElem
  · simp
  · intro i h1 h2
    simp at h1
    simp [List.getElem?_eq_getElem h1]

set_option maxHeartbeats 2000000 in
theorem turnedB_any (l : List Int) (p : Option Addr) (cap : Nat) (hl : ∀ x ∈ l, 0 ≤ x ∧ x ≤ 10000000) (hn : l.length ≤ 1000) (w : World) (hI : IntsAt w p l) :
    Calls Tryz.prog 95 #[.slice p l.length cap] w fun e w' => ∃ G, e = .returned (.slice (some ⟨G, 0, none⟩) l.length l.length) ∧ w.heap.size ≤ G ∧ IRow w' G (l.map turn) ∧ Below w.heap.size w w' := by
  have hB0 : Below w.heap.size w (w.alloc (.cells #[.slice p l.length cap] 25)) := bal (Below.refl _ _) _
  have hM := made_any 118 (.pointer (some ⟨w.heap.size, 0, none⟩)) (fun i => turn (l.getD i 0)) l.length w.heap.size hn (FarL w.heap.size p l.length)
    (fun _ wr => wr.cell? ⟨w.heap.size, 0, none⟩ = some (.slice p l.length cap) ∧ IntsAt wr p l) (w.alloc (.cells #[.slice p l.length cap] 25)) (by simp) (farL_lt (by simp) (hI.later hB0)) ⟨by simp [go_sem], hI.later hB0⟩
    (fun _ w1 w2 h hk => ⟨cell_block h.1 (hk _ (Or.inl rfl)), ints_block h.2 (fun g hg => hk g (Or.inr hg))⟩) enter118
    (fun k hk wr _ h => (turned1_any l p cap k hk hl hn w.heap.size wr h.1 h.2).mono fun e w' ⟨h1, h2⟩ => by
      subst h2
      exact ⟨h1, h, Below.refl _ _, fun _ _ _ => rfl⟩)
  rw [map_getD l turn] at hM
  have HM := hide hM
  have HB0 := hide hB0
  clear hM hB0
  go_enter Tryz.func95, Tryz.ntmps95
  go_wp2_with fail
  refine HM.out.mono ?_
  rintro e w1 ⟨G, rfl, hG, hr, _, hb, _⟩
  have HR := hide hr
  have HB := hide (HB0.out.trans hb)
  have hG2 : w.heap.size ≤ G := by simp at hG; omega
  clear hr hb hG
  go_wp2
  go_ret
  exact ⟨G, rfl, hG2, HR.out, HB.out⟩

/-- The bits of a number. -/
def bitsC (x : Int) (n : Nat) : List Int := (List.range n).map (fun i => x / 2 ^ i % 2)

set_option maxHeartbeats 2000000 in
theorem constant_any (x : Int) (n : Nat) (hx : 0 ≤ x) (hx2 : x ≤ 255) (hn : n ≤ 8) (w : World) :
    Calls Tryz.prog 55 #[.int .i64 x, .int .i64 n] w fun e w' => ∃ G, e = .returned (.slice (some ⟨G, 0, none⟩) n n) ∧ w.heap.size ≤ G ∧ IRow w' G (bitsC x n) ∧ Below w.heap.size w w' := by
  have hB0 : Below w.heap.size w (w.alloc (.cells #[.int .i64 x] 3)) := bal (Below.refl _ _) _
  have hM := made_any 83 (.pointer (some ⟨w.heap.size, 0, none⟩)) (fun i => x / 2 ^ i % 2) n w.heap.size (by omega) (fun g => g = w.heap.size)
    (fun _ wr => wr.cell? ⟨w.heap.size, 0, none⟩ = some (.int .i64 x)) (w.alloc (.cells #[.int .i64 x] 3)) (by simp) (fun g h => by subst h; simp) (by simp [go_sem])
    (fun _ w1 w2 h hk => cell_block h (hk _ rfl)) enter83
    (fun k hk wr _ h => (const1_any x k hx hx2 (by omega) w.heap.size wr h).mono fun e w' ⟨h1, h2⟩ => by
      subst h2
      exact ⟨h1, h, Below.refl _ _, fun _ _ _ => rfl⟩)
  have HM := hide hM
  have HB0 := hide hB0
  clear hM hB0
  go_enter Tryz.func55, Tryz.ntmps55
  go_wp2_with fail
  refine HM.out.mono ?_
  rintro e w1 ⟨G, rfl, hG, hr, _, hb, _⟩
  have HR := hide hr
  have HB := hide (HB0.out.trans hb)
  have hG2 : w.heap.size ≤ G := by simp at hG; omega
  clear hr hb hG
  go_wp2
  go_ret
  exact ⟨G, rfl, hG2, HR.out, HB.out⟩

theorem enter58 (args : Array Value) (w : World) : (callFunc 58 args).run Tryz.prog w = .ok (.enter 58 args) w := by kernel_rfl
/-- The next In. -/
theorem start1_any (i : Int) (x : Nat) (hx : x ≤ 1000) (B : Nat) (w : World) (c0 : w.cell? ⟨B, 0, none⟩ = some (.int .i64 x)) (f0 : w.frozen? ⟨B, 0, none⟩ = false) :
    Calls Tryz.prog 58 #[.int .i64 i, .pointer (some ⟨B, 0, none⟩)] w fun e w' => e = .returned (.int .i64 (2 * ((x : Int) + 1))) ∧ w' = w.setCell ⟨B, 0, none⟩ (.int .i64 ((x : Int) + 1)) := by
  have c1 := World.cell?_setCell_same w ⟨B, 0, none⟩ (.int .i64 ((x : Int) + 1)) c0
  go_enter Tryz.func58, Tryz.ntmps58
  go_wp2_with (go_at_call 44; refine (literal_any _ (by omega) (by omega) _).mono ?_; rintro e w' ⟨rfl, rfl⟩)
  go_ret
  exact ⟨rfl, rfl⟩

end Go.Proofs.YtabnimgpednhjabGreat.Gg

namespace Go.Proofs.YtabnimgpednhjabGreat
open Go.RowKit Go.Maps
set_option maxRecDepth 100000

theorem sel_in {f : Nat → Bool} {n k : Nat} (h : k < (sel f n).length) : 0 ≤ (sel f n)[k] ∧ (sel f n)[k] < n := sel_bd h

/-- What is next of the first of them. -/
def nextsL (xs : List (Int × Int)) (l : List Int) (k : Nat) : List Int := (l.take k).map (lastV xs)
theorem nextsL_succ (xs : List (Int × Int)) (l : List Int) (k : Nat) (h : k < l.length) : nextsL xs l (k + 1) = nextsL xs l k ++ [lastV xs l[k]] := by
  unfold nextsL
  rw [List.take_succ_eq_append_getElem h, List.map_append]
  rfl
theorem nextsL_len (xs : List (Int × Int)) (l : List Int) (k : Nat) (h : k ≤ l.length) : (nextsL xs l k).length = k := by simp [nextsL]; omega

set_option maxHeartbeats 4000000 in
theorem nextOnes_any (a0 a1 a2 a3 a4 : Option Addr) (c0 c1 c2 c3 c4 l1 l3 l4 : Nat) (ns : List Nd) (xs : List (Int × Int)) (hl : ns.length ≤ 80) (hlx : xs.length ≤ 8796093022208) (hs : ∀ (i : Nat) (h : i < xs.length), 0 ≤ xs[i].1 ∧ xs[i].1 < 80 ∧ 0 ≤ xs[i].2 ∧ xs[i].2 < 80) (w : World) (hN : NodesAt w a0 ns) (hX : PairsAt w a2 xs) :
    Calls Tryz.prog 36 #[Mv.val ⟨a0, c0, a1, l1, c1, a2, xs.length, c2, a3, l3, c3, a4, l4, c4⟩ ns.length] w fun e w' => ∃ p cap, e = .returned (.slice p ((sel (isK ns 3) ns.length).map (lastV xs)).length cap) ∧ IntsAt w' p ((sel (isK ns 3) ns.length).map (lastV xs)) ∧ Below w.heap.size w w' := by
  have hB0 : Below w.heap.size w (w.alloc (.cells (Mv.cells ⟨a0, c0, a1, l1, c1, a2, xs.length, c2, a3, l3, c3, a4, l4, c4⟩ ns.length) 35)) := bal (Below.refl _ _) _
  have HP := hide (partners_any a2 c2 xs hlx hs _ (hX.later hB0))
  have HN := hide hN
  have HSL := hide (sel_len (isK ns 3) ns.length)
  have HBD := hide (fun k (h : k < (sel (isK ns 3) ns.length).length) => sel_in h)
  have HOK := hide (fun (w' : World) (hb : Below w.heap.size w w') => ofKind_any a0 c0 ns (by omega) 3 w' (hN.later hb))
  generalize sel (isK ns 3) ns.length = l at *
  have hll := HSL.out
  generalize hR : l.map (lastV xs) = R at *
  have HRQ := hide hR
  clear hN hX hs HSL hR
  go_enter Tryz.func36, Tryz.ntmps36
  go_wp2_with fail
  refine HP.out.mono ?_
  rintro e w1 ⟨M, D, rfl, _, hown, hD, hb1⟩
  have q0 := cell_later hb1 (a := ⟨w.heap.size, 0, none⟩) (v := .slice a0 ns.length c0) (by simp [go_sem])
  have HB1 := hide (bthen hB0 hb1)
  have HD := hide hD
  have HO := hide hown
  clear hb1 hB0 hown hD
  go_wp2_with fail
  refine (HOK.out _ HB1.out).mono ?_
  rintro e w2 ⟨p2, cap2, rfl, hI2, hb2⟩
  have HO2 := hide (Gg.map_below HO.out hb2)
  have HB2 := hide (bthen HB1.out hb2)
  have HI2 := hide hI2
  clear hb2 hI2 HO HB1 q0
  clear HP HN
  go_wp2
  go_loopw [4, 14] (fun v i wr => ∃ k : Nat, k ≤ l.length ∧ i = .int .i64 k ∧ wr.ownsRow w2.heap.size 3 1 v (nextsL xs l k).length ((nextsL xs l k).map (Value.int .i64)) ∧ Below w2.heap.size w2 wr) (fun _ i _ => l.length - (intOf i).toNat)
  case atStart => exact ⟨0, Nat.zero_le _, rfl, World.ownsRow_nil _ _ _ _, Below.refl _ _⟩
  case round =>
    obtain ⟨k, hk, rfl, hown, hbw⟩ := hrel
    have hszw := hbw.size
    by_cases hlt : k < l.length
    · obtain ⟨b, off, rfl, hc⟩ := (HI2.out.later hbw) (by omega)
      have hck := hc k hlt
      have hki : (k : Int) < (l.length : Int) := by omega
      have hbd := HBD.out k hlt
      have HS := hide (nextsL_succ xs l k hlt)
      have HLN := hide (nextsL_len xs l k hk)
      have HOM := hide (Gg.map_below HO2.out hbw)
      have HOW := hide hown
      have HBW := hide hbw
      clear hc hown hbw
      generalize l[k] = x at *
      have hkey : keyOf Tryz.prog 3 (.int .i64 x) = some (.int .i64 x) := keyOf_int_mk Tryz.underlying3 (WalkArith.wf_i64 (by omega))
      have HAT := hide (HD.out.at' x)
      generalize nextsL xs l k = us at *
      generalize lastV xs x = y at *
      go_wp2_with (first
        | (at_lookup; refine wpList_lookup_own_int _ rfl _ _ 92 rfl 3 3 .i64 law3 Tryz.underlying92 Tryz.underlying3 (zero3 _) M xs.length D rfl HOM.out _ _ rfl hkey ?_; intro c hat hwc; have hcy : c = y := lit_inj (hat.symm.trans HAT.out); subst hcy; clear hat hwc)
        | (at_builtin; refine Gg.wpList_append_ints rfl _ _ rfl w2.heap.size _ us [c] rfl (HOW.out.alloc _) _ _ rfl (Gg.ints_one c) (fun h => by cases h) (by simp; rw [HLN.out]; omega) (by simp; omega) ?_))
      intro v' w6 hown6 hg6
      have HB6 := hide ((bal HBW.out _).grown hg6 (by simp; omega) (fun j hj => (HOW.out.lt j hj).1))
      have hown7 : w6.ownsRow w2.heap.size 3 1 v' (nextsL xs l (k + 1)).length ((nextsL xs l (k + 1)).map (Value.int .i64)) := by rw [HS.out]; simpa using hown6
      clear hown6 hg6
      go_wp2
      go_roundw
      case rel => exact ⟨k + 1, by omega, by go_num, hown7, HB6.out⟩
      case measure => simp [intOf]; omega
    · obtain rfl : k = l.length := by omega
      have hki : ¬ (l.length : Int) < (l.length : Int) := by omega
      have hall : nextsL xs l l.length = R := by rw [← HRQ.out]; simp [nextsL]
      rw [hall] at hown
      obtain ⟨pv, cv, rfl, hiv, _⟩ := Gg.owns_ints hown
      have HIV := hide hiv
      have HBW := hide (bthen HB2.out hbw)
      clear hall hown hiv hbw
      go_wp2
      go_ret
      exact ⟨pv, ⟨cv, rfl⟩, HIV.out, HBW.out⟩

end Go.Proofs.YtabnimgpednhjabGreat
