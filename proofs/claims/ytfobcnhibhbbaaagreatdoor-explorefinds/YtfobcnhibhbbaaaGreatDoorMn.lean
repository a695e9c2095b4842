/- A whole model is checked. -/
import Derived.Test.YtfobcnhibhbbaaaGreatDoorMmM
namespace Go.Proofs.YtfobcnhibhbbaaaGreatDoor.Ev
open Go.RowKit
set_option maxRecDepth 100000

/-- The first of so many that is not 0. -/
def firstN (f : Nat → Int) : Nat → Int
  | 0 => 0
  | k + 1 => if firstN f k ≠ 0 then firstN f k else f k

theorem firstN_zero {f : Nat → Int} {n : Nat} : firstN f n = 0 ↔ ∀ i, i < n → f i = 0 := by
  induction n with
  | zero => simp [firstN]
  | succ n ih =>
    simp only [firstN]
    by_cases h : firstN f n = 0
    · rw [if_neg (by simp [h])]
      constructor
      · intro hf i hi
        rcases Nat.lt_succ_iff_lt_or_eq.1 hi with h1 | rfl
        · exact ih.1 h i h1
        · exact hf
      · intro hf; exact hf n (by omega)
    · rw [if_pos h]
      constructor
      · intro hf; exact absurd hf h
      · intro hf; exact ih.2 (fun i hi => hf i (by omega))

theorem firstN_hit {f : Nat → Int} {k n : Nat} (hk : k < n) (h : ∀ i, i < k → f i = 0) (hf : f k ≠ 0) : firstN f n = f k := by
  induction n with
  | zero => omega
  | succ n ih =>
    simp only [firstN]
    by_cases hkn : k < n
    · rw [ih hkn, if_pos hf]
    · obtain rfl : k = n := by omega
      rw [if_neg (by rw [firstN_zero.2 h]; simp)]

def nodeAtE (ns : List Nd) (i : Nat) : Int := match ns[i]? with | some x => nodeE ns i x | none => 0
theorem nodeAtE_at {ns : List Nd} {i : Nat} (h : i < ns.length) : nodeAtE ns i = nodeE ns i ns[i] := by
  unfold nodeAtE; rw [List.getElem?_eq_getElem h]

def checkE (ns : List Nd) (is xs : List (Int × Int)) (bs hs : List Int) : Int :=
  if 80 < ns.length ∨ 8 < bs.length ∨ 8 < hs.length then 2
  else if firstN (nodeAtE ns) ns.length ≠ 0 then firstN (nodeAtE ns) ns.length
  else if 6 < sumW ns (sel (isK ns 2) ns.length) ∨ 10 < sumW ns (sel (isK ns 3) ns.length) then 2
  else if pairsE ns is xs ≠ 0 then pairsE ns is xs else marksE ns xs bs hs

theorem bad_false {t i num x : Int} (h : badOn t i num x = false) (hi : i < t) : 0 ≤ x ∧ x < num := by
  unfold badOn at h
  rw [if_pos hi] at h
  simp at h
  omega

theorem opE_zero {ns : List Nd} {i : Nat} {x : Nd} (h : opE ns i x = 0) : ∀ y ∈ opsL x, 0 ≤ y ∧ y < i := by
  unfold opE at h
  by_cases hb : (badOn (takes x.kind) 0 i x.a || badOn (takes x.kind) 1 i x.b || badOn (takes x.kind) 2 i x.c) = true
  · rw [if_pos hb] at h; omega
  · simp only [Bool.or_eq_true, not_or, Bool.not_eq_true] at hb
    obtain ⟨⟨h0, h1⟩, h2⟩ := hb
    intro y hy
    unfold opsL at hy
    rcases takes_four x.kind with ht | ht | ht | ht
    all_goals rw [ht] at hy h0 h1 h2
    · simp at hy
    · simp at hy; subst hy; exact bad_false h0 (by omega)
    · simp at hy
      rcases hy with rfl | rfl
      · exact bad_false h0 (by omega)
      · exact bad_false h1 (by omega)
    · simp at hy
      rcases hy with rfl | rfl | rfl
      · exact bad_false h0 (by omega)
      · exact bad_false h1 (by omega)
      · exact bad_false h2 (by omega)

theorem node_zero {ns : List Nd} {i : Nat} {x : Nd} (h : nodeE ns i x = 0) : (1 ≤ x.width ∧ x.width ≤ 8) ∧ (1 ≤ x.kind ∧ x.kind ≤ 23) ∧ (∀ y ∈ opsL x, 0 ≤ y ∧ y < i) ∧ (4 ≤ x.kind → opE ns i x = 0) ∧ (x.kind < 4 → leafE x = 0) := by
  unfold nodeE at h
  by_cases h1 : btw x.kind 1 23 = false
  · rw [if_pos h1] at h; omega
  rw [if_neg h1] at h
  by_cases h2 : btw x.width 1 8 = false
  · rw [if_pos h2] at h; omega
  rw [if_neg h2] at h
  have hk := btw_true.1 (show btw x.kind 1 23 = true from by simpa using h1)
  have hw := btw_true.1 (show btw x.width 1 8 = true from by simpa using h2)
  by_cases h4 : 4 ≤ x.kind
  · rw [if_pos h4] at h
    exact ⟨hw, hk, opE_zero h, fun _ => h, fun h' => by omega⟩
  · rw [if_neg h4] at h
    refine ⟨hw, hk, ?_, fun h' => absurd h' h4, fun _ => h⟩
    intro y hy
    have ht : takes x.kind = 0 := by unfold takes; (repeat' split) <;> omega
    unfold opsL at hy
    rw [ht] at hy
    simp at hy

theorem nodes_ok {ns : List Nd} (h : firstN (nodeAtE ns) ns.length = 0) : Wok ns ∧ Ook ns := by
  have h' := firstN_zero.1 h
  refine ⟨fun i hi => ?_, fun i hi => ?_⟩
  · have := h' i hi
    rw [nodeAtE_at hi] at this
    exact (node_zero this).1
  · have := h' i hi
    rw [nodeAtE_at hi] at this
    exact (node_zero this).2.2.1

set_option maxRecDepth 100000 in
set_option maxHeartbeats 1000000 in
theorem check_any (a0 a1 a2 a3 a4 : Option Addr) (c0 c1 c2 c3 c4 : Nat) (ns : List Nd) (is xs : List (Int × Int)) (bs hs : List Int) (hln : ns.length ≤ maxLen) (hli : is.length ≤ 8796093022208) (hlx : xs.length ≤ 8796093022208) (hlb : bs.length ≤ maxLen) (hlh : hs.length ≤ maxLen) (w : World)
    (hN : NodesAt w a0 ns) (hI : PairsAt w a1 is) (hX : PairsAt w a2 xs) (hBs : IntsAt w a3 bs) (hHs : IntsAt w a4 hs) :
    Calls Tryz.prog 14 #[Mv.val ⟨a0, c0, a1, is.length, c1, a2, xs.length, c2, a3, bs.length, c3, a4, hs.length, c4⟩ ns.length] w fun e w' => e = .returned (.int .i64 (checkE ns is xs bs hs)) ∧ Below w.heap.size w w' := by
  unfold maxLen at hln hlb hlh
  by_cases hm : 80 < ns.length ∨ 8 < bs.length ∨ 8 < hs.length
  · have HE : Hid (checkE ns is xs bs hs = 2) := by unfold checkE; rw [if_pos hm]; rfl
    by_cases h1 : 80 < ns.length
    · clear hm
      go_enter Tryz.func14, Tryz.ntmps14
      go_wp2
      go_ret
      exact ⟨ret_int HE.out.symm, bal (Below.refl _ _) _⟩
    · by_cases h2 : 8 < bs.length
      · clear hm
        go_enter Tryz.func14, Tryz.ntmps14
        go_wp2
        go_ret
        exact ⟨ret_int HE.out.symm, bal (Below.refl _ _) _⟩
      · have h3 : 8 < hs.length := by omega
        clear hm
        go_enter Tryz.func14, Tryz.ntmps14
        go_wp2
        go_ret
        exact ⟨ret_int HE.out.symm, bal (Below.refl _ _) _⟩
  · have h1 : ns.length ≤ 80 := by omega
    have h2 : bs.length ≤ 8 := by omega
    have h3 : hs.length ≤ 8 := by omega
    have HC : Hid (checkE ns is xs bs hs = if firstN (nodeAtE ns) ns.length ≠ 0 then firstN (nodeAtE ns) ns.length else if 6 < sumW ns (sel (isK ns 2) ns.length) ∨ 10 < sumW ns (sel (isK ns 3) ns.length) then 2 else if pairsE ns is xs ≠ 0 then pairsE ns is xs else marksE ns xs bs hs) := by
      unfold checkE; rw [if_neg hm]; rfl
    have HBx := hide (Box.new w ⟨a0, c0, a1, is.length, c1, a2, xs.length, c2, a3, bs.length, c3, a4, hs.length, c4⟩ ns.length)
    have hb0 : Below w.heap.size w (w.alloc (.cells (Mv.cells ⟨a0, c0, a1, is.length, c1, a2, xs.length, c2, a3, bs.length, c3, a4, hs.length, c4⟩ ns.length) 26)) := bal (Below.refl _ _) _
    have HB0 := hide hb0
    clear hm hln hlb hlh hb0
    go_enter Tryz.func14, Tryz.ntmps14
    go_wp2
    go_loopw [25] (fun i wr => ∃ k : Nat, k ≤ ns.length ∧ i = .int .i64 k ∧ Below w.heap.size w wr ∧ Hid (Box wr w.heap.size ⟨a0, c0, a1, is.length, c1, a2, xs.length, c2, a3, bs.length, c3, a4, hs.length, c4⟩ ns.length) ∧ Hid (∀ i, i < k → nodeAtE ns i = 0)) (fun i _ => ns.length - (intOf i).toNat)
    case atStart => exact ⟨0, Nat.zero_le _, rfl, HB0.out, HBx.out, fun i hi => by omega⟩
    case round =>
      obtain ⟨k, hk, rfl, hbw, hbx, hz⟩ := hrel
      have hbox := hbx.out
      simp only [Box] at hbox
      obtain ⟨q0, q1, q2, q3, q4⟩ := hbox
      by_cases hlt : k < ns.length
      · have hcall := checkNode_any a0 c0 ns h1 k hlt wr (hN.later hbw)
        rw [← nodeAtE_at hlt] at hcall
        have HCC := hide (fun _ : Unit => hcall)
        have HZ : Hid (nodeAtE ns k = 0 → ∀ i, i < k + 1 → nodeAtE ns i = 0) := by
          intro h i hi
          rcases Nat.lt_succ_iff_lt_or_eq.1 hi with h1 | rfl
          · exact hz.out i h1
          · exact h
        have HH : Hid (nodeAtE ns k ≠ 0 → firstN (nodeAtE ns) ns.length = nodeAtE ns k) := fun h => firstN_hit hlt hz.out h
        clear hcall hz
        go_wp2_with fail
        refine (HCC.out ()).mono ?_
        rintro e w2 ⟨rfl, hb2⟩
        have hbw2 := bthen hbw hb2
        have HBB := hide (hbx.out.later hb2)
        by_cases hn : nodeAtE ns k = 0
        · have HZ2 := hide (HZ.out hn)
          rw [hn]
          clear hn HZ HH
          go_wp2
          go_roundw
          case rel => exact ⟨k + 1, by omega, by go_num, hbw2, HBB, HZ2⟩
          case measure => simp [intOf]; omega
        · have HE : Hid (checkE ns is xs bs hs = nodeAtE ns k) := by
            rw [HC.out, HH.out hn, if_pos hn]; rfl
          have hn' : (nodeAtE ns k != 0) = true := by simp [hn]
          clear hn HZ HH
          go_wp2
          go_ret
          exact ⟨ret_int HE.out.symm, hbw2⟩
      · have HF : Hid (firstN (nodeAtE ns) ns.length = 0) := firstN_zero.2 (fun i hi => hz.out i (by omega))
        obtain ⟨hW, hO⟩ := nodes_ok HF.out
        have HW := hide hW
        have HO := hide hO
        clear hz hW hO
        have HC2 : Hid (checkE ns is xs bs hs = if 6 < sumW ns (sel (isK ns 2) ns.length) ∨ 10 < sumW ns (sel (isK ns 3) ns.length) then 2 else if pairsE ns is xs ≠ 0 then pairsE ns is xs else marksE ns xs bs hs) := by
          rw [HC.out, HF.out, if_neg (by simp)]; rfl
        clear HC
        go_wp2_with fail
        refine (bitsOf_any a0 c0 ns h1 HW.out 2 _ (hN.later hbw)).mono ?_
        rintro e w2 ⟨rfl, hb2⟩
        have hbw2 := bthen hbw hb2
        have HB2 := hide (hbx.out.later hb2)
        have hbox2 := HB2.out
        simp only [Box] at hbox2
        obtain ⟨r0, r1, r2, r3, r4⟩ := hbox2
        clear q0 q1 q2 q3 q4 hb2
        by_cases hs1 : 6 < sumW ns (sel (isK ns 2) ns.length)
        · have HE : Hid (checkE ns is xs bs hs = 2) := by rw [HC2.out, if_pos (Or.inl hs1)]; rfl
          clear HC2
          go_wp2
          go_ret
          exact ⟨ret_int HE.out.symm, hbw2⟩
        · go_wp2_with fail
          refine (bitsOf_any a0 c0 ns h1 HW.out 3 _ (hN.later hbw2)).mono ?_
          rintro e w3 ⟨rfl, hb3⟩
          have hbw3 := bthen hbw2 hb3
          have HB3 := hide (HB2.out.later hb3)
          have hbox3 := HB3.out
          simp only [Box] at hbox3
          obtain ⟨s0, s1, s2, s3, s4⟩ := hbox3
          clear r0 r1 r2 r3 r4 hb3
          by_cases hs2 : 10 < sumW ns (sel (isK ns 3) ns.length)
          · have HE : Hid (checkE ns is xs bs hs = 2) := by rw [HC2.out, if_pos (Or.inr hs2)]; rfl
            clear HC2
            go_wp2
            go_ret
            exact ⟨ret_int HE.out.symm, hbw3⟩
          · have HC3 : Hid (checkE ns is xs bs hs = if pairsE ns is xs ≠ 0 then pairsE ns is xs else marksE ns xs bs hs) := by
              rw [HC2.out, if_neg (by omega)]; rfl
            clear HC2
            go_wp2_with fail
            refine (checkPairs_any a0 a1 a2 a3 a4 c0 c1 c2 c3 c4 bs.length hs.length ns is xs h1 hli hlx HO.out _ (hN.later hbw3) (hI.later hbw3) (hX.later hbw3)).mono ?_
            rintro e w4 ⟨rfl, hb4⟩
            have hbw4 := bthen hbw3 hb4
            have HB4 := hide (HB3.out.later hb4)
            have hbox4 := HB4.out
            simp only [Box] at hbox4
            obtain ⟨t0, t1, t2, t3, t4⟩ := hbox4
            clear s0 s1 s2 s3 s4 hb4
            by_cases hp : pairsE ns is xs = 0
            · have HE : Hid (checkE ns is xs bs hs = marksE ns xs bs hs) := by rw [HC3.out, if_neg (by simp [hp])]; rfl
              rw [hp]
              clear HC3 hp
              go_wp2_with fail
              refine (checkMarks_any a0 a1 a2 a3 a4 c0 c1 c2 c3 c4 is.length ns xs bs hs h1 hlx (by omega) (by omega) _ (hN.later hbw4) (hX.later hbw4) (hBs.later hbw4) (hHs.later hbw4)).mono ?_
              rintro e w5 ⟨rfl, hb5⟩
              go_wp2
              go_ret
              exact ⟨ret_int HE.out.symm, bthen hbw4 hb5⟩
            · have HE : Hid (checkE ns is xs bs hs = pairsE ns is xs) := by rw [HC3.out, if_pos hp]; rfl
              have hp' : (pairsE ns is xs != 0) = true := by simp [hp]
              clear HC3 hp
              go_wp2
              go_ret
              exact ⟨ret_int HE.out.symm, hbw4⟩

end Go.Proofs.YtfobcnhibhbbaaaGreatDoor.Ev
