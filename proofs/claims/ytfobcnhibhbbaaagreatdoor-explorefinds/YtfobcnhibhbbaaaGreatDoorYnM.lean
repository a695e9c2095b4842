/- All words of a kind's nodes: the function that tells them, the walk. -/
import Derived.Test.YtfobcnhibhbbaaaGreatDoorYjM
import Derived.Test.YtfobcnhibhbbaaaGreatDoorEjM
import Derived.Shelf.Abstract
import Derived.Shelf.RegionOpen
import Derived.WalkKit
import Derived.OwnWalkIn
import Derived.TacticsInMore
import Derived.LoopNIn
import Derived.LoopIn
import Derived.Deep.AppendLies
namespace Go.Proofs.YtfobcnhibhbbaaaGreatDoor.Ev.Xp
open Go.RowKit Go.Shelf
set_option maxRecDepth 100000
attribute [local go_sem] Oper.semAt_some

/-- What a round keeps: all that lay there and is not X's. -/
structure Kq (n0 : Nat) (X : Nat → Prop) (W W' : World) : Prop where
  size : W.heap.size ≤ W'.heap.size
  far : ∀ g, g < n0 → ¬ X g → W'.heap[g]? = W.heap[g]?
/-- What is so of a list that is handed over. -/
def Mq (n0 : Nat) (x : Rw) (W : World) : Prop := IntsAt W x.at' x.ns ∧ (∀ a, 0 < x.ns.length → x.at' = some a → n0 ≤ a.block) ∧ x.ns.length ≤ x.cap ∧ x.cap ≤ maxLen
theorem Kq.refl (n0 : Nat) (X : Nat → Prop) (W : World) : Kq n0 X W W := ⟨Nat.le_refl _, fun _ _ _ => rfl⟩
theorem Kq.trans {n0 : Nat} {X : Nat → Prop} {A B C : World} (h1 : Kq n0 X A B) (h2 : Kq n0 X B C) : Kq n0 X A C := ⟨Nat.le_trans h1.size h2.size, fun g hg hx => (h2.far g hg hx).trans (h1.far g hg hx)⟩
theorem Kq.of_below {n0 : Nat} {X : Nat → Prop} {A B : World} {b : Nat} (h : Below b A B) (hb : n0 ≤ b) : Kq n0 X A B := ⟨h.size, fun g hg _ => h.block g (Nat.lt_of_lt_of_le hg hb)⟩
/-- What has been filled in of a list of words, k of them. -/
def fillN (ns : List Nd) (S : List Int) (x : Int) (k : Nat) : List Int := wordsN ns S x k ++ List.replicate (S.length - k) 0
theorem wordsN_len (ns : List Nd) (S : List Int) (x : Int) (k : Nat) : (wordsN ns S x k).length = k := by unfold wordsN; simp
theorem fillN_len (ns : List Nd) (S : List Int) (x : Int) (k : Nat) (hk : k ≤ S.length) : (fillN ns S x k).length = S.length := by unfold fillN; simp [wordsN_len]; omega
theorem fillN_set (ns : List Nd) (S : List Int) (x : Int) (k : Nat) (hk : k < S.length) : (fillN ns S x k).set k (wordN ns S x k) = fillN ns S x (k + 1) := by
  unfold fillN
  have e1 : S.length - k = (S.length - (k + 1)) + 1 := by omega
  rw [e1, List.replicate_succ, List.set_append_right _ _ (by rw [wordsN_len]; exact Nat.le_refl _), wordsN_len, Nat.sub_self, List.set_cons_zero]
  unfold wordsN
  rw [List.range_succ, List.map_append, List.append_assoc]
  rfl
theorem fillN_all (ns : List Nd) (S : List Int) (x : Int) : fillN ns S x S.length = wordsL (S.map (wdOf ns)) x := by
  unfold fillN
  rw [Nat.sub_self, List.replicate_zero, List.append_nil, wordsN_L]
theorem fillN_zero (ns : List Nd) (S : List Int) (x : Int) : fillN ns S x 0 = List.replicate S.length 0 := rfl
theorem remN_nonneg (ns : List Nd) (S : List Int) (x : Int) (hx : 0 ≤ x) (k : Nat) : 0 ≤ remN ns S x k ∧ remN ns S x k ≤ x := by
  induction k with
  | zero => exact ⟨hx, Int.le_refl _⟩
  | succ k ih => exact ⟨Int.ediv_nonneg ih.1 (by have := twoP (wdOf ns (S.getD k 0)); omega), Int.le_trans (Int.ediv_le_self _ ih.1) ih.2⟩
theorem allL_sum (ns : List Nd) (hW : Wok ns) (S : List Int) : 0 ≤ sumW ns S ∧ allL (S.map (wdOf ns)) = two (sumW ns S) := by
  induction S with
  | nil => exact ⟨Int.le_refl _, rfl⟩
  | cons a S ih =>
    have ha := wdOf_bd hW a
    have e : sumW ns (a :: S) = wdOf ns a + sumW ns S := by unfold sumW; rw [List.map_cons, List.sum_cons]
    rw [e, List.map_cons, allL, ih.2]
    refine ⟨by omega, ?_⟩
    unfold two
    rw [Int.toNat_add ha.1 ih.1, Int.pow_add]
theorem grow_J {B : Nat} {J : Nat → World → Prop} (h : AbidesFrom B J) {A C : World} (hb : Below A.heap.size A C) {k : Nat} (hj : J k A) : J k C :=
  h k A C none hj ⟨hb.os, hb.tape, hb.output, hb.size, fun g hg _ => hb.block g hg⟩ (fun r e => by cases e)
theorem mask_two (r v : Int) (hv : 0 ≤ v ∧ v ≤ 8) : bits .and .i64 r (wrap64 (wrap64 (2 ^ v.toNat) - 1)) = r % two v := by
  have h2 := two_bd hv
  have e : (2 : Int) ^ v.toNat = two v := rfl
  rw [e, IntWalk.wrap64_in (two v) (by omega), IntWalk.wrap64_in (two v - 1) (by omega)]
  refine bits_mask r v.toNat (by omega) (two v - 1) ?_
  have : 0 < 2 ^ v.toNat := Nat.two_pow_pos _
  rw [two_nat]
  omega
set_option maxHeartbeats 4000000 in
theorem words_seq (m : Mv) (ns : List Nd) (hl : ns.length ≤ 80) (hW : Wok ns) (kind : Int) (n : Nat) (b2 b3 b5 : Nat) (w : World) (X : Nat → Prop) (hk : ∀ W, Kq w.heap.size X w W → Aw W b2 b3 b5 m ns kind ∧ NodesAt W m.a0 ns) (N : Nat) (hN2 : (N : Int) = two (sumW ns (sel (isK ns kind) ns.length))) (hNb : 0 ≤ sumW ns (sel (isK ns kind) ns.length) ∧ sumW ns (sel (isK ns kind) ns.length) ≤ 10) (hNN : N ≤ 1024) :
    SeqM Fence.wide n Tryz.prog 61 #[.pointer (some ⟨b2, 0, none⟩), .pointer (some ⟨b3, 0, none⟩), .pointer (some ⟨b5, 0, none⟩)] (Mq w.heap.size) (Kq w.heap.size X) N (fun k => wordsL ((sel (isK ns kind) ns.length).map (wdOf ns)) k) w := by
  intro l J W hB hJ hY h0
  obtain ⟨hA, hN⟩ := hk W (Kq.of_below hB (Nat.le_refl _))
  have HBI := hide (bitsOf_any m.a0 m.c0 ns hl hW kind W hN)
  obtain ⟨c0, c1, c2, c3, c4⟩ := hA.box
  have k0 := hA.kd
  have HY := hide hY
  have HK := hide hk
  have HB := hide hB
  have HJ := hide hJ
  have HJ0 := hide h0
  have HW := hide hW
  have hw2 : wrap64 (2 ^ (sumW ns (sel (isK ns kind) ns.length)).toNat) = (N : Int) := by
    rw [hN2]
    show wrap64 (two _) = _
    rw [← hN2]
    exact IntWalk.wrap64_in _ (by omega)
  have hsl := sel_len (isK ns kind) ns.length
  have HSB : Hid (∀ k, ∀ h : k < (sel (isK ns kind) ns.length).length, 0 ≤ (sel (isK ns kind) ns.length)[k] ∧ (sel (isK ns kind) ns.length)[k] < ns.length) := fun k h => sel_bd h
  generalize hsS : sumW ns (sel (isK ns kind) ns.length) = bs at *
  have HSS := hide hsS
  clear hsS hY hk hB hJ h0 hW hA hN
  refine callsIn_of_wp Tryz.func61 rfl trivial ?_ rfl
  simp only [Tryz.ntmps61, List.size_toArray, List.length_cons, List.length_nil, Nat.reduceAdd, Nat.reduceSub, Array.replicate_succ, Array.replicate_zero, List.push_toArray, List.append_toArray, List.nil_append, List.cons_append]
  gi_wp2_with fail
  refine ⟨trivial, (fun h => by simp [Fence.wide] at h), (callsIn_wide.2 HBI.out).mono ?_⟩
  rintro e w2 ⟨rfl, hb2⟩
  have HB2 := hide hb2
  clear hb2 c0 c1 c2 c3 c4 k0 HBI
  gi_wp2
  rw [hw2]
  clear hw2 hN2
  gi_loopw [16] (fun i wr => ∃ k : Nat, k ≤ N ∧ i = .int .i64 k ∧ J k wr ∧ Kq w.heap.size X w wr ∧ W.heap.size ≤ wr.heap.size) (fun i _ => N - (intOf i).toNat)
  case atStart => exact ⟨0, Nat.zero_le _, rfl, grow_J HJ.out HB2.out HJ0.out, (Kq.of_below HB.out (Nat.le_refl _)).trans (Kq.of_below HB2.out HB.out.size), HB2.out.size⟩
  case round =>
    obtain ⟨k, hkN, rfl, hJk, hKk, hsk⟩ := hrel
    obtain ⟨hA, hN⟩ := HK.out _ hKk
    obtain ⟨p5, cap5, n0, nI⟩ := hA.nd
    obtain ⟨c0, c1, c2, c3, c4⟩ := hA.box
    have HJk := hide hJk
    have HKk := hide hKk
    have HN := hide hN
    have HNI := hide nI
    clear hA hN hJk hKk nI
    by_cases hlt : k < N
    · obtain ⟨CZ, hCZ, hmk⟩ := make_ints (sel (isK ns kind) ns.length).length (by omega)
      have HCZ := hide (hCZ wr)
      clear hCZ
      have HB3 : Hid (Below wr.heap.size wr (wr.alloc (.cells CZ 3))) := bal (Below.refl _ _) _
      have hsz : wr.heap.size < (wr.alloc (.cells CZ 3)).heap.size := by simp
      have HSZ := hide hsz
      have n1 := cell_later HB3.out n0
      gi_wp2
      clear hmk
      generalize wr.alloc (.cells CZ 3) = wa at *
      generalize hS : sel (isK ns kind) ns.length = S at *
      have HS := hide hS
      clear hS
      gi_loopw [7, 25] (fun s i wq => ∃ j : Nat, j ≤ S.length ∧ i = .int .i64 j ∧ s = .int .i64 (remN ns S k j) ∧ IRow wq wr.heap.size (fillN ns S k j) ∧ Below wr.heap.size wr wq ∧ wr.heap.size < wq.heap.size) (fun _ i _ => S.length - (intOf i).toNat)
      case atStart => exact ⟨0, Nat.zero_le _, rfl, rfl, by rw [fillN_zero]; exact HCZ.out, HB3.out, hsz⟩
      case round =>
        obtain ⟨j, hj, rfl, rfl, hR, hbq, hsq⟩ := hrel
        have HR := hide hR
        have HBQ := hide hbq
        by_cases hjl : j < S.length
        · obtain ⟨pb, poff, rfl, hc⟩ := HNI.out (by omega)
          have hx := HSB.out j hjl
          have hck := cell_later hbq (hc j hjl)
          have q0 := cell_later hbq c0
          have HX : Hid (S.getD j 0 = S[j]) := getD_at hjl
          have hwb := wdOf_bd HW.out S[j]
          have hrb := remN_nonneg ns S k (by omega) j
          have HRJ : Hid (remN ns S k (j + 1) = remN ns S k j / two (wdOf ns (S.getD j 0))) := rfl
          have HWJ : Hid (wordN ns S k j = remN ns S k j % two (wdOf ns (S.getD j 0))) := rfl
          have HFS := hide (fillN_set ns S k j hjl)
          rw [HX.out] at HRJ HWJ
          generalize S[j] = x at *
          obtain ⟨nb, noff, hp, hnc⟩ := HN.out (by omega)
          have hw1 := cell_later hbq (wd_cell hnc x hx.1 hx.2)
          obtain ⟨hz1, hz2⟩ := hR j (by rw [fillN_len _ _ _ _ hj]; exact hjl)
          generalize (fillN ns S k j)[j]'(by rw [fillN_len _ _ _ _ hj]; exact hjl) = old at hz1
          generalize remN ns S k j = r at *
          generalize wdOf ns x = v at *
          have HM := hide (mask_two r v hwb)
          clear hnc hc hR hbq n0 n1 c0 c1 c2 c3 c4
          rw [hp] at q0
          gi_wp2
          go_roundw
          case rel =>
            refine ⟨j + 1, by omega, by go_num, by rw [HRJ.out]; rfl, ?_, ?_, ?_⟩
            · rw [HM.out, ← HWJ.out, ← HFS.out]
              exact HR.out.set _ _
            · exact HBQ.out.setCell (p := ⟨_, _, none⟩) (Nat.le_refl _) _
            · simpa using hsq
          case measure => simp [intOf]; omega
        · obtain rfl : j = S.length := by omega
          have hlen := fillN_len ns S k S.length (Nat.le_refl _)
          obtain ⟨fn, tmps, assign, body, hy, hRR⟩ := HY.out k ⟨some ⟨_, 0, none⟩, fillN ns S k S.length, S.length⟩ wr (grow_J HJ.out HBQ.out HJk.out) hlt (fillN_all _ _ _) ⟨irow_ints HR.out, (fun a _ e => by cases e; exact Nat.le_trans HB.out.size hsk), (by rw [hlen]; exact Nat.le_refl _), (by have := congrArg List.length HS.out; unfold maxLen; simp only; omega)⟩
          rw [show (Rw.v ⟨some ⟨_, 0, none⟩, fillN ns S k S.length, S.length⟩) = .slice (some ⟨_, 0, none⟩) S.length S.length from by unfold Rw.v; rw [hlen]] at hy
          clear hlen
          gi_wp2
          refine ⟨(fun h => by simp [Fence.wide] at h), hRR.mono ?_⟩
          rintro e W3 ⟨rfl, hJ3, hk3⟩
          have HJ3 := hide hJ3
          have HK3 := hide hk3
          clear hJ3 hk3
          gi_wp2
          go_roundw
          case rel => exact ⟨k + 1, by omega, by go_num, HJ3.out, (HKk.out.trans (Kq.of_below HBQ.out (Nat.le_trans HB.out.size hsk))).trans HK3.out, Nat.le_trans hsk (Nat.le_trans HBQ.out.size HK3.out.size)⟩
          case measure => simp [intOf]; omega
    · obtain rfl : k = N := by omega
      gi_wp2
      go_end0
      exact ⟨⟨_, rfl⟩, HJk.out⟩
end Go.Proofs.YtfobcnhibhbbaaaGreatDoor.Ev.Xp

namespace Go.Proofs.YtfobcnhibhbbaaaGreatDoor.Ev.Xp
open Go.RowKit Go.Maps
set_option maxRecDepth 100000

theorem wordsN_succ (ns : List Nd) (S : List Int) (x : Int) (k : Nat) : wordsN ns S x (k + 1) = wordsN ns S x k ++ [wordN ns S x k] := by simp [wordsN, List.range_succ]
theorem remN_bd (ns : List Nd) (S : List Int) {x : Int} (h0 : 0 ≤ x) (k : Nat) : 0 ≤ remN ns S x k ∧ remN ns S x k ≤ x := by
  induction k with
  | zero => exact ⟨h0, Int.le_refl _⟩
  | succ k ih =>
    have ht := two_pos (wdOf ns (S.getD k 0))
    refine ⟨Int.ediv_nonneg ih.1 (by omega), Int.le_trans (Int.ediv_le_self _ ih.1) ih.2⟩
theorem wordN_bd (ns : List Nd) (S : List Int) (x : Int) (k : Nat) : 0 ≤ wordN ns S x k ∧ wordN ns S x k < two (wdOf ns (S.getD k 0)) := by
  have ht := two_pos (wdOf ns (S.getD k 0))
  exact ⟨Int.emod_nonneg _ (by omega), Int.emod_lt_of_pos _ ht⟩

end Go.Proofs.YtfobcnhibhbbaaaGreatDoor.Ev.Xp

namespace Go.Proofs.YtfobcnhibhbbaaaGreatDoor.Ev.Xp
open Go.RowKit Go.Maps
set_option maxRecDepth 100000

/-- A word of each node, as wide as it may be. -/
theorem fitL_at {ns : List Nd} {S l : List Int} (h : FitL (S.map (wdOf ns)) l) : l.length = S.length ∧ ∀ k, k < S.length → 0 ≤ l.getD k 0 ∧ l.getD k 0 < two (wdOf ns (S.getD k 0)) := by
  induction S generalizing l with
  | nil => cases l with
    | nil => exact ⟨rfl, fun k hk => by simp at hk⟩
    | cons a l => exact h.elim
  | cons s S ih =>
    cases l with
    | nil => exact h.elim
    | cons a l =>
      obtain ⟨h1, h2, h3⟩ := h
      obtain ⟨e, hf⟩ := ih h3
      refine ⟨by simp [e], fun k hk => ?_⟩
      cases k with
      | zero => exact ⟨h1, h2⟩
      | succ k => exact hf k (by simpa using hk)
theorem numK_bd {ns : List Nd} (hW : Wok ns) {S l : List Int} (h : FitL (S.map (wdOf ns)) l) (k : Nat) (hk : k ≤ S.length) : (numK ns S l k).2 = two (sumW ns (S.take k)) ∧ 0 ≤ (numK ns S l k).1 ∧ (numK ns S l k).1 < (numK ns S l k).2 := by
  induction k with
  | zero => exact ⟨rfl, Int.le_refl _, show (0 : Int) < 1 by decide⟩
  | succ k ih =>
    obtain ⟨h1, h2, h3⟩ := ih (by omega)
    obtain ⟨g1, g2⟩ := (fitL_at h).2 k (by omega)
    have hs := sumW_take ns S k (by omega)
    have hb := (sumW_bd hW S k).1
    have hd := (wdOf_bd hW S[k]).1
    have ht := two_pos (wdOf ns (S.getD k 0))
    rw [numK]
    refine ⟨?_, ?_, ?_⟩
    · show (numK ns S l k).2 * two (wdOf ns (S.getD k 0)) = _
      rw [hs, h1, getD_at (by omega)]
      unfold two
      rw [Int.toNat_add hb hd, Int.pow_add]
    · show 0 ≤ (numK ns S l k).1 + l.getD k 0 * (numK ns S l k).2
      have := Int.mul_nonneg g1 (show 0 ≤ (numK ns S l k).2 by omega)
      omega
    · show (numK ns S l k).1 + l.getD k 0 * (numK ns S l k).2 < (numK ns S l k).2 * two (wdOf ns (S.getD k 0))
      have := Int.mul_le_mul_of_nonneg_right (show l.getD k 0 + 1 ≤ two (wdOf ns (S.getD k 0)) by omega) (show 0 ≤ (numK ns S l k).2 by omega)
      rw [Int.add_mul, Int.one_mul, Int.mul_comm (two _)] at this
      omega
theorem sumW_le {ns : List Nd} (hW : Wok ns) (S : List Int) (k : Nat) : sumW ns (S.take k) ≤ sumW ns S := by
  have e : sumW ns S = sumW ns (S.take k) + sumW ns (S.drop k) := by
    unfold sumW
    rw [← List.sum_append, ← List.map_append, List.take_append_drop]
  have := (allL_sum ns hW (S.drop k)).1
  omega
end Go.Proofs.YtfobcnhibhbbaaaGreatDoor.Ev.Xp

namespace Go.Proofs.YtfobcnhibhbbaaaGreatDoor.Ev.Xp
open Go.RowKit Go.Maps
set_option maxRecDepth 100000

/-- No more than nine bits of inputs and states. -/
def smallB (ns : List Nd) : Bool := decide (sumW ns (sel (isK ns 2) ns.length) + sumW ns (sel (isK ns 3) ns.length) ≤ 9)
end Go.Proofs.YtfobcnhibhbbaaaGreatDoor.Ev.Xp
