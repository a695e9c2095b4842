/- What comes of a model: words that fit. -/
import Derived.Test.YtagaemlgompggaaGreatDoorEaM
import Derived.Test.YtagaemlgompggaaGreatDoorNhM
namespace Go.Proofs.YtagaemlgompggaaGreatDoor.Ev
open Go.RowKit
set_option maxRecDepth 100000

theorem op_isW {ns : List Nd} {vs : List Int} {t i x : Int} (h : i < t → isW (vs.getD x.toNat 0) (wdOf ns x) = true) : isW (opv vs t i x) (wds ns t i x) = true := by
  unfold opv wds
  by_cases hi : i < t
  · rw [if_pos hi, if_pos hi]; exact h hi
  · rw [if_neg hi, if_neg hi]; decide

theorem opE_fit {ns : List Nd} {i : Nat} {x : Nd} (h : opE ns i x = 0) : fitE x.kind x.width x.n (wds ns (takes x.kind) 0 x.a) (wds ns (takes x.kind) 1 x.b) (wds ns (takes x.kind) 2 x.c) = 0 := by
  unfold opE at h
  split at h
  · omega
  · exact h

theorem opE_in {ns : List Nd} {i : Nat} {x : Nd} (h : opE ns i x = 0) : (0 < takes x.kind → 0 ≤ x.a ∧ x.a < i) ∧ (1 < takes x.kind → 0 ≤ x.b ∧ x.b < i) ∧ (2 < takes x.kind → 0 ≤ x.c ∧ x.c < i) ∧ (takes x.kind < 2 → x.b = 0) ∧ (takes x.kind < 3 → x.c = 0) := by
  unfold opE at h
  by_cases hb : (badOn (takes x.kind) 0 i x.a || badOn (takes x.kind) 1 i x.b || badOn (takes x.kind) 2 i x.c) = true
  · rw [if_pos hb] at h; omega
  · simp only [Bool.or_eq_true, not_or, Bool.not_eq_true] at hb
    obtain ⟨⟨h0, h1⟩, h2⟩ := hb
    refine ⟨fun ht => bad_false h0 ht, fun ht => bad_false h1 ht, fun ht => bad_false h2 ht, fun ht => ?_, fun ht => ?_⟩
    · unfold badOn at h1
      rw [if_neg (by omega)] at h1
      simpa using h1
    · unfold badOn at h2
      rw [if_neg (by omega)] at h2
      simpa using h2

theorem vals_at (ns : List Nd) (sts ins : List Int) {k n : Nat} (h : k < n) : (vals ns sts ins n).getD k 0 = valAt ns sts ins (vals ns sts ins k) k := by
  induction n with
  | zero => omega
  | succ n ih =>
    have hl := vals_len ns sts ins n
    simp only [vals, List.getD, List.getElem?_append]
    rcases Nat.lt_succ_iff_lt_or_eq.1 h with h1 | rfl
    · rw [if_pos (by omega)]
      exact ih h1
    · rw [if_neg (by omega), hl]
      simp

theorem vals_getD (ns : List Nd) (sts ins : List Int) {i k n : Nat} (h : i < k) (hk : k ≤ n) : (vals ns sts ins n).getD i 0 = (vals ns sts ins k).getD i 0 := by
  rw [vals_at ns sts ins (show i < n by omega), vals_at ns sts ins h]

/-- Each node's word is one of its width. -/
theorem vals_isW {ns : List Nd} {sts ins : List Int} (hn : firstN (nodeAtE ns) ns.length = 0) (hs : wordsE ns 3 sts = 0) (hi : wordsE ns 2 ins = 0) :
    ∀ k, k < ns.length → isW (valAt ns sts ins (vals ns sts ins k) k) (wdOf ns k) = true := by
  intro k
  induction k using Nat.strongRecOn with
  | ind k ih =>
    intro hk
    have hnode := firstN_zero.1 hn k hk
    rw [nodeAtE_at hk] at hnode
    obtain ⟨hw, hkd, _, h4, hlf⟩ := node_zero hnode
    have hwd : wdOf ns k = ns[k].width := by unfold wdOf; rw [Int.toNat_natCast, List.getElem?_eq_getElem hk]
    unfold valAt
    rw [List.getElem?_eq_getElem hk]
    simp only
    by_cases k1 : ns[k].kind = 1
    · rw [if_pos k1, hwd]
      have := hlf (by omega)
      unfold leafE at this
      by_cases hW : isW ns[k].n ns[k].width = true
      · exact hW
      · rw [if_pos ⟨k1, (Bool.not_eq_true _).mp hW⟩] at this
        omega
    · rw [if_neg k1]
      by_cases k2 : ns[k].kind = 2
      · rw [if_pos k2]
        exact ((words_zero hi).2 k hk (by rw [isK_at hk, k2]; rfl)).2
      · rw [if_neg k2]
        by_cases k3 : ns[k].kind = 3
        · rw [if_pos k3]
          exact ((words_zero hs).2 k hk (by rw [isK_at hk, k3]; rfl)).2
        · rw [if_neg k3, hwd]
          have hop := h4 (by omega)
          obtain ⟨i0, i1, i2, _, _⟩ := opE_in hop
          have key : ∀ x : Int, 0 ≤ x ∧ x < k → isW ((vals ns sts ins k).getD x.toNat 0) (wdOf ns x) = true := by
            intro x hx
            rw [vals_at ns sts ins (show x.toNat < k by omega)]
            have := ih x.toNat (by omega) (by omega)
            rwa [show ((x.toNat : Nat) : Int) = x by omega] at this
          exact made_isW (opE_fit hop) (op_isW (fun h => key _ (i0 h))) (op_isW (fun h => key _ (i1 h))) (op_isW (fun h => key _ (i2 h)))

theorem wordsE_hit {ns : List Nd} {kind : Int} {l : List Int} (hl : l.length = (sel (isK ns kind) ns.length).length) {k : Nat} (hk : k < l.length) (h : isW (l.getD k 0) (wdOf ns ((sel (isK ns kind) ns.length).getD k 0)) = false) : wordsE ns kind l = 3 := by
  unfold wordsE
  rw [if_neg (by simp [hl]), if_pos (List.any_eq_true.2 ⟨k, List.mem_range.2 hk, by rw [h]; rfl⟩)]
theorem wordsE_ok {ns : List Nd} {kind : Int} {l : List Int} (hl : l.length = (sel (isK ns kind) ns.length).length) (h : ∀ k, k < l.length → isW (l.getD k 0) (wdOf ns ((sel (isK ns kind) ns.length).getD k 0)) = true) : wordsE ns kind l = 0 := by
  unfold wordsE
  rw [if_neg (by simp [hl]), if_neg]
  rw [Bool.not_eq_true, List.any_eq_false]
  intro i hi
  rw [h i (List.mem_range.1 hi)]
  simp

theorem getD_at {l : List Int} {k : Nat} (h : k < l.length) : l.getD k 0 = l[k] := by simp [List.getD, List.getElem?_eq_getElem h]

set_option maxRecDepth 100000 in
set_option maxHeartbeats 2000000 in
theorem fitW_any (m : Mv) (ns : List Nd) (hl : ns.length ≤ 80) (hW : Wok ns) (kind : Int) (l : List Int) (p : Option Addr) (cap : Nat) (hll : l.length ≤ maxLen) (w : World) (hN : NodesAt w m.a0 ns) (hI : IntsAt w p l) :
    Calls Tryz.prog 63 #[m.val ns.length, .int .i64 kind, .slice p l.length cap] w fun e w' => e = .returned (.int .i64 (wordsE ns kind l)) ∧ Below w.heap.size w w' := by
  obtain ⟨a0, c0, a1, l1, c1, a2, l2, c2, a3, l3, c3, a4, l4, c4⟩ := m
  simp only at hN
  unfold maxLen at hll
  have HW := hide hW
  have HI := hide hI
  have HN := hide hN
  have HBx := hide (Box.new w ⟨a0, c0, a1, l1, c1, a2, l2, c2, a3, l3, c3, a4, l4, c4⟩ ns.length)
  have HB0 : Hid (Below w.heap.size w (w.alloc (.cells (Mv.cells ⟨a0, c0, a1, l1, c1, a2, l2, c2, a3, l3, c3, a4, l4, c4⟩ ns.length) 51))) := bal (Below.refl _ _) _
  have HK := hide (fun _ : Unit => ofKind_any a0 c0 ns (by omega) kind _ (hN.later HB0.out))
  have HBD : Hid (∀ k (h : k < (sel (isK ns kind) ns.length).length), 0 ≤ (sel (isK ns kind) ns.length)[k] ∧ (sel (isK ns kind) ns.length)[k] < ns.length) := fun k h => sel_bd h
  have hsl := sel_len (isK ns kind) ns.length
  have HH := hide (@wordsE_hit ns kind l)
  have HO := hide (@wordsE_ok ns kind l)
  have HM : Hid (l.length ≠ (sel (isK ns kind) ns.length).length → wordsE ns kind l = 2) := fun h => by unfold wordsE; rw [if_pos h]
  clear hN hI hW
  generalize sel (isK ns kind) ns.length = S at *
  generalize wordsE ns kind l = we at *
  go_enter Tryz.func63, Tryz.ntmps63
  go_wp2_with fail
  refine (HK.out ()).mono ?_
  rintro e w1 ⟨q, qc, rfl, hQ, hb1⟩
  have HB1 := hide (bthen HB0.out hb1)
  have HX1 := hide (HBx.out.later hb1)
  have HQ := hide hQ
  have q0 := HX1.out.1
  clear hb1 hQ HB0 HBx HK
  by_cases hlen : l.length = S.length
  · have hne : ((l.length : Int) != (S.length : Int)) = false := by simp [hlen]
    have HL := hide hlen
    clear hlen HM
    go_wp2
    go_loopw [21] (fun i wr => ∃ k : Nat, k ≤ S.length ∧ i = .int .i64 k ∧ Below w1.heap.size w1 wr ∧ Hid (∀ i, i < k → isW (l.getD i 0) (wdOf ns (S.getD i 0)) = true)) (fun i _ => S.length - (intOf i).toNat)
    case atStart => exact ⟨0, Nat.zero_le _, rfl, Below.refl _ _, fun i hi => by omega⟩
    case round =>
      obtain ⟨k, hk, rfl, hbw, hz⟩ := hrel
      clear q0
      have q0 := cell_later hbw HX1.out.1
      by_cases hlt : k < S.length
      · have hlt2 : k < l.length := by have := HL.out; omega
        obtain ⟨b, off, rfl, hc⟩ := (HQ.out.later hbw) (by omega)
        obtain ⟨b2, off2, rfl, hc2⟩ := (HI.out.later (bthen HB1.out hbw)) (by omega)
        have d0 := hc k hlt
        have d1 := hc2 k hlt2
        have hkl : (k : Int) < (S.length : Int) := by omega
        have hkl2 : (k : Int) < (l.length : Int) := by omega
        obtain ⟨s0, s1⟩ := HBD.out k hlt
        have HY : Hid (isW l[k] (wdOf ns S[k]) = false → we = 3) := fun h => HH.out HL.out hlt2 (by rw [getD_at hlt2, getD_at hlt]; exact h)
        have HZ : Hid (isW l[k] (wdOf ns S[k]) = true → ∀ i, i < k + 1 → isW (l.getD i 0) (wdOf ns (S.getD i 0)) = true) := by
          intro h i hik
          rcases Nat.lt_succ_iff_lt_or_eq.1 hik with h1 | rfl
          · exact hz.out i h1
          · rw [getD_at hlt2, getD_at hlt]; exact h
        clear hc hc2 hz
        generalize l[k] = x at *
        generalize S[k] = s at *
        obtain ⟨nb, noff, rfl, hnc⟩ := (HN.out.later (bthen HB1.out hbw)) (by omega)
        have k2 := (kd_wd hnc s s0 s1).2
        have HBT := hide (fun w => isWord_any x (wdOf ns s) (wdOf_bd HW.out s) w)
        clear hnc
        generalize wdOf ns s = wd at *
        cases hxb : isW x wd
        · have HE := hide (HY.out hxb)
          rw [hxb] at HBT
          clear HY HZ hxb
          go_wp2
          go_quiet (first | (go_at_call 80; exact Calls.quiet_of_same (HBT.out _)))
          go_wp2
          go_ret
          exact ⟨ret_int HE.out.symm, below_drewN (bthen HB1.out hbw) _⟩
        · have HZ2 := hide (HZ.out hxb)
          rw [hxb] at HBT
          clear HY HZ hxb
          go_wp2
          go_quiet (first | (go_at_call 80; exact Calls.quiet_of_same (HBT.out _)))
          go_wp2
          go_roundw
          case rel => first | exact ⟨k + 1, by omega, by go_num, below_drewN hbw _, HZ2⟩ | ((repeat apply Exists.intro); exact ⟨⟨k + 1, by omega, by go_num, below_drewN hbw _, HZ2⟩, rfl⟩)
          case measure => simp [intOf]; omega
      · have HE : Hid (we = 0) := HO.out HL.out (fun i hi => hz.out i (by have := HL.out; omega))
        clear hz
        go_wp2
        go_ret
        exact ⟨ret_int HE.out.symm, bthen HB1.out hbw⟩
  · have hne : ((l.length : Int) != (S.length : Int)) = true := by simp; omega
    have HE := hide (HM.out hlen)
    clear hlen HM
    go_wp2
    go_ret
    exact ⟨ret_int HE.out.symm, HB1.out⟩

theorem isWordR_any (x v : Int) (hv : 0 ≤ v ∧ v ≤ 8) (w : World) : Calls Tryz.prog 14 #[.int .i64 x, .int .i64 0, .int .i64 (two v - 1)] w fun e w' => e = .returned (.bool (isW x v)) ∧ w' = w := by
  have e : btw x 0 (two v - 1) = isW x v := by
    have := two_bd hv
    rw [Bool.eq_iff_iff, btw_true, isW_iff]
    omega
  rw [← e]
  exact between_any x 0 (two v - 1) w

end Go.Proofs.YtagaemlgompggaaGreatDoor.Ev
