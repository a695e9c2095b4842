/- The plain text: every node's check; what a list has; inputs and states of a model. -/
import Derived.Test.YtabnimgpednhjaaNc
import Derived.Test.YtabnimgpednhjaaNd
namespace Go.Proofs.Ytabnimgpednhjaa
open Go.RowKit

theorem checkNodeR_any (p : Option Addr) (cap : Nat) (ns : List Nd) (hl : ns.length ≤ 80) (i : Nat) (hi : i < ns.length) (w : World) (hN : NodesAt w p ns) :
    Calls Try.prog 56 #[.slice p ns.length cap, .int .i64 i] w fun e w' => e = .returned (.int .i64 (nodeE ns i ns[i])) ∧ Below w.heap.size w w' := by
  by_cases hk : btw ns[i].kind 1 23 = true
  · by_cases hv : btw ns[i].width 1 8 = true
    · have hk2 := btw_true.1 hk
      by_cases h4 : 4 ≤ ns[i].kind
      · rcases takes_op h4 hk2.2 with ht | ht | ht
        · exact checkNodeR_op1 p cap ns hl i hi w hN h4 hk2.2 hv ht
        · exact checkNodeR_op2 p cap ns hl i hi w hN h4 hk2.2 hv ht
        · exact checkNodeR_op3 p cap ns hl i hi w hN h4 hk2.2 hv ht
      · have h3 : ns[i].kind = 1 ∨ ns[i].kind = 2 ∨ ns[i].kind = 3 := by omega
        rcases h3 with h | h | h
        · exact checkNodeR_1 p cap ns hl i hi w hN h hv
        · exact checkNodeR_2 p cap ns hl i hi w hN h hv
        · exact checkNodeR_3 p cap ns hl i hi w hN h hv
    · exact checkNodeR_bad p cap ns hl i hi w hN (.inr (by simpa using hv))
  · exact checkNodeR_bad p cap ns hl i hi w hN (.inl (by simpa using hk))

set_option maxRecDepth 100000 in
set_option maxHeartbeats 1000000 in
theorem has_any (p : Option Addr) (cap : Nat) (l : List Int) (x : Int) (hl : l.length ≤ maxLen) (w : World) (hI : IntsAt w p l) :
    Calls Try.prog 28 #[.slice p l.length cap, .int .i64 x] w fun e w' => e = .returned (.bool (l.any (· == x))) ∧ Below w.heap.size w w' := by
  unfold maxLen at hl
  go_enter Try.func28, Try.ntmps28
  go_wp2
  go_loopw [5] (fun i wr => ∃ k : Nat, k ≤ l.length ∧ i = .int .i64 k ∧ Hid (∀ i (hi : i < l.length), i < k → (l[i] == x) = false) ∧ Below w.heap.size w wr) (fun i _ => l.length - (intOf i).toNat)
  case atStart => exact ⟨0, Nat.zero_le _, rfl, fun i hi h => by omega, Below.refl _ _⟩
  case round =>
    obtain ⟨k, hk, rfl, hno, hbw⟩ := hrel
    by_cases hlt : k < l.length
    · obtain ⟨b, off, rfl, hc⟩ := (hI.later hbw) (by omega)
      have d0 := hc k hlt
      have HN : Hid ((l[k] == x) = false → ∀ i (hi : i < l.length), i < k + 1 → (l[i] == x) = false) := by
        intro h i h1 hik
        rcases Nat.lt_succ_iff_lt_or_eq.1 hik with h3 | rfl
        · exact hno.out i h1 h3
        · exact h
      have HY : Hid ((l[k] == x) = true → l.any (· == x) = true) := fun h => List.any_eq_true.2 ⟨l[k], List.getElem_mem hlt, h⟩
      clear hc hno
      generalize l[k] = y at *
      cases hf : (y == x)
      · have HN2 := hide (HN.out hf)
        clear HN HY
        go_wp2
        go_roundw
        case rel => exact ⟨k + 1, by omega, by go_num, HN2, hbw⟩
        case measure => simp [intOf]; omega
      · have HY2 := hide (HY.out hf)
        clear HN HY
        go_wp2
        go_ret
        exact ⟨ret_bool HY2.out.symm, hbw⟩
    · have HD : Hid (l.any (· == x) = false) := by
        refine List.any_eq_false.2 (fun y hy => ?_)
        obtain ⟨i, hi, rfl⟩ := List.getElem_of_mem hy
        rw [hno.out i hi (by omega)]
        simp
      clear hno
      go_wp2
      go_ret
      exact ⟨ret_bool HD.out.symm, hbw⟩

set_option maxRecDepth 100000 in
set_option maxHeartbeats 1000000 in
theorem inputs_any (a0 a1 a2 a3 a4 : Option Addr) (c0 c1 c2 c3 c4 : Nat) (ns : List Nd) (is xs : List (Int × Int)) (bs hs : List Int) (hln : ns.length ≤ 2932031007402) (hli : is.length ≤ 8796093022208) (hlx : xs.length ≤ 8796093022208) (hlb : bs.length ≤ maxLen) (hlh : hs.length ≤ maxLen) (w : World)
    (hN : NodesAt w a0 ns) (hI : PairsAt w a1 is) (hX : PairsAt w a2 xs) (hBs : IntsAt w a3 bs) (hHs : IntsAt w a4 hs) :
    Calls Try.prog 19 #[Mv.val ⟨a0, c0, a1, is.length, c1, a2, xs.length, c2, a3, bs.length, c3, a4, hs.length, c4⟩ ns.length] w fun e w' =>
      ∃ p cap l, e = .returned (.tuple #[.slice p l.length cap, .int .i64 (checkE ns is xs bs hs)]) ∧ l = (if checkE ns is xs bs hs = 0 then sel (isK ns 2) ns.length else []) ∧ IntsAt w' p l ∧ Below w.heap.size w w' := by
  have HB0 : Hid (Below w.heap.size w (w.alloc (.cells (Mv.cells ⟨a0, c0, a1, is.length, c1, a2, xs.length, c2, a3, bs.length, c3, a4, hs.length, c4⟩ ns.length) 40))) := bal (Below.refl _ _) _
  have HBx := hide (Box.new w ⟨a0, c0, a1, is.length, c1, a2, xs.length, c2, a3, bs.length, c3, a4, hs.length, c4⟩ ns.length)
  have HK := hide (fun _ : Unit => check_any a0 a1 a2 a3 a4 c0 c1 c2 c3 c4 ns is xs bs hs (by unfold maxLen; omega) hli hlx hlb hlh _ (hN.later HB0.out) (hI.later HB0.out) (hX.later HB0.out) (hBs.later HB0.out) (hHs.later HB0.out))
  generalize checkE ns is xs bs hs = ce at *
  go_enter Try.func19, Try.ntmps19
  go_wp2_with fail
  refine (HK.out ()).mono ?_
  rintro e w1 ⟨rfl, hb1⟩
  have hbw := bthen HB0.out hb1
  have HBB := hide (HBx.out.later hb1)
  have hbox := HBB.out
  simp only [Box] at hbox
  obtain ⟨q0, q1, q2, q3, q4⟩ := hbox
  by_cases hce : ce = 0
  · subst hce
    have HO := hide (fun _ : Unit => ofKind_any a0 c0 ns hln 2 w1 (hN.later hbw))
    go_wp2_with fail
    refine (HO.out ()).mono ?_
    rintro e w2 ⟨p, cap, rfl, hl, hb2⟩
    go_wp2
    go_ret2
    exact ⟨p, cap, _, rfl, by simp, hl, bthen hbw hb2⟩
  · have hne : (ce != 0) = true := by simp [hce]
    have HE := hide hce
    clear hce
    go_wp2
    go_ret2
    exact ⟨none, 0, [], rfl, by first | rfl | rw [if_neg HE.out], fun h => by simp at h, hbw⟩

set_option maxRecDepth 100000 in
set_option maxHeartbeats 1000000 in
theorem states_any (a0 a1 a2 a3 a4 : Option Addr) (c0 c1 c2 c3 c4 : Nat) (ns : List Nd) (is xs : List (Int × Int)) (bs hs : List Int) (hln : ns.length ≤ 2932031007402) (hli : is.length ≤ 8796093022208) (hlx : xs.length ≤ 8796093022208) (hlb : bs.length ≤ maxLen) (hlh : hs.length ≤ maxLen) (w : World)
    (hN : NodesAt w a0 ns) (hI : PairsAt w a1 is) (hX : PairsAt w a2 xs) (hBs : IntsAt w a3 bs) (hHs : IntsAt w a4 hs) :
    Calls Try.prog 20 #[Mv.val ⟨a0, c0, a1, is.length, c1, a2, xs.length, c2, a3, bs.length, c3, a4, hs.length, c4⟩ ns.length] w fun e w' =>
      ∃ p cap l, e = .returned (.tuple #[.slice p l.length cap, .int .i64 (checkE ns is xs bs hs)]) ∧ l = (if checkE ns is xs bs hs = 0 then sel (isK ns 3) ns.length else []) ∧ IntsAt w' p l ∧ Below w.heap.size w w' := by
  have HB0 : Hid (Below w.heap.size w (w.alloc (.cells (Mv.cells ⟨a0, c0, a1, is.length, c1, a2, xs.length, c2, a3, bs.length, c3, a4, hs.length, c4⟩ ns.length) 40))) := bal (Below.refl _ _) _
  have HBx := hide (Box.new w ⟨a0, c0, a1, is.length, c1, a2, xs.length, c2, a3, bs.length, c3, a4, hs.length, c4⟩ ns.length)
  have HK := hide (fun _ : Unit => check_any a0 a1 a2 a3 a4 c0 c1 c2 c3 c4 ns is xs bs hs (by unfold maxLen; omega) hli hlx hlb hlh _ (hN.later HB0.out) (hI.later HB0.out) (hX.later HB0.out) (hBs.later HB0.out) (hHs.later HB0.out))
  generalize checkE ns is xs bs hs = ce at *
  go_enter Try.func20, Try.ntmps20
  go_wp2_with fail
  refine (HK.out ()).mono ?_
  rintro e w1 ⟨rfl, hb1⟩
  have hbw := bthen HB0.out hb1
  have HBB := hide (HBx.out.later hb1)
  have hbox := HBB.out
  simp only [Box] at hbox
  obtain ⟨q0, q1, q2, q3, q4⟩ := hbox
  by_cases hce : ce = 0
  · subst hce
    have HO := hide (fun _ : Unit => ofKind_any a0 c0 ns hln 3 w1 (hN.later hbw))
    go_wp2_with fail
    refine (HO.out ()).mono ?_
    rintro e w2 ⟨p, cap, rfl, hl, hb2⟩
    go_wp2
    go_ret2
    exact ⟨p, cap, _, rfl, by simp, hl, bthen hbw hb2⟩
  · have hne : (ce != 0) = true := by simp [hce]
    have HE := hide hce
    clear hce
    go_wp2
    go_ret2
    exact ⟨none, 0, [], rfl, by first | rfl | rw [if_neg HE.out], fun h => by simp at h, hbw⟩

end Go.Proofs.Ytabnimgpednhjaa
