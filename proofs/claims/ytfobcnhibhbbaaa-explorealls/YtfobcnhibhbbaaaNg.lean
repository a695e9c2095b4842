/- The plain text: which nodes hang on an input or a state. -/
import Derived.Test.YtfobcnhibhbbaaaNd
namespace Go.Proofs.Ytfobcnhibhbbaaa
open Go.RowKit
set_option maxRecDepth 100000

def BoolsAt (w : World) (p : Option Addr) (l : List Bool) : Prop :=
  0 < l.length → ∃ b, p = some ⟨b, 0, none⟩ ∧ ∀ (i : Nat) (h : i < l.length), w.cell? ⟨b, i, none⟩ = some (.bool l[i])

theorem BoolsAt.later {w w1 : World} {p : Option Addr} {l : List Bool} (h : BoolsAt w p l) (hb : Below w.heap.size w w1) : BoolsAt w1 p l := by
  intro h0
  obtain ⟨b, hp, hc⟩ := h h0
  exact ⟨b, hp, fun i hi => cell_later hb (hc i hi)⟩

theorem owns_bools {w : World} {base : Nat} {v : Value} {l : List Bool} (h : w.ownsRow base 4 1 v l.length (l.map Value.bool)) : ∃ p cap, v = .slice p l.length cap ∧ BoolsAt w p l := by
  obtain ⟨h1, h2⟩ := h
  rcases h2 with ⟨rfl, h0⟩ | ⟨g, cap, cur, rfl, hg, hh, hn, hm, hs, ht⟩
  · refine ⟨none, 0, by rw [h0], fun h => by omega⟩
  · refine ⟨_, cap, rfl, fun _ => ⟨g, rfl, fun i hi => ?_⟩⟩
    have h3 : w.ownsRow base 4 1 (.slice (some ⟨g, 0, none⟩) l.length cap) l.length (l.map Value.bool) := ⟨h1, .inr ⟨g, cap, cur, rfl, hg, hh, hn, hm, hs, ht⟩⟩
    have := h3.cellAt i (by omega)
    simpa [hi] using this

theorem ownsB_later {w w' : World} {base : Nat} {v : Value} {l : List Bool} {o o2 : Obj} {x : Bool} {u : Value} (hu : w.ownsRow base 4 1 u l.length (l.map Value.bool))
    (hown : w'.ownsRow base 4 1 v (l.length + 1) (l.map Value.bool ++ [.bool x])) (hg : ((w.alloc o).alloc o2).grownBy w' u.ownBlock) {w0 : World} (hb : Below base w0 w) (hB : base ≤ w.heap.size) :
    w'.ownsRow base 4 1 v (l ++ [x]).length ((l ++ [x]).map Value.bool) ∧ Below base w0 w' := by
  refine ⟨by simpa using hown, ((hb.alloc hB o).alloc (by simp; omega) o2).grown hg (by simp; omega) (fun j hj => (hu.lt j hj).1)⟩

theorem getD_cell {w : World} {b : Nat} {l : List Bool} (hc : ∀ (i : Nat) (h : i < l.length), w.cell? ⟨b, i, none⟩ = some (.bool l[i])) (x : Int) (h0 : 0 ≤ x) (h1 : x < l.length) :
    w.cell? ⟨b, x.toNat, none⟩ = some (.bool (l.getD x.toNat false)) := by
  rw [hc x.toNat (by omega)]
  simp [List.getD, List.getElem?_eq_getElem (show x.toNat < l.length from by omega)]

set_option maxRecDepth 100000 in
set_option maxHeartbeats 4000000 in
theorem hangsR_any (m : Mv) (ns : List Nd) (hl : ns.length ≤ 80) (hO : Ook ns) (w : World) (hN : NodesAt w m.a0 ns) :
    Calls Try.prog 20 #[m.val ns.length] w fun e w' => ∃ p cap, e = .returned (.slice p ns.length cap) ∧ BoolsAt w' p (hgs ns ns.length) ∧ Below w.heap.size w w' := by
  obtain ⟨i0, hi, hz0, hz1, hz2⟩ := info_parts info4
  obtain ⟨a0, c0, a1, l1, c1, a2, l2, c2, a3, l3, c3, a4, l4, c4⟩ := m
  simp only at hN
  have HO := hide hO
  have HBx := hide (Box.new w ⟨a0, c0, a1, l1, c1, a2, l2, c2, a3, l3, c3, a4, l4, c4⟩ ns.length)
  clear hO
  go_enter Try.func20, Try.ntmps20
  go_wp2
  go_loopw [3, 4] (fun v i wr => ∃ k : Nat, k ≤ ns.length ∧ i = .int .i64 k ∧ wr.ownsRow (w.heap.size + 1) 4 1 v (hgs ns k).length ((hgs ns k).map Value.bool) ∧ Below (w.heap.size + 1) (w.alloc (.cells (Mv.cells ⟨a0, c0, a1, l1, c1, a2, l2, c2, a3, l3, c3, a4, l4, c4⟩ ns.length) 26)) wr) (fun _ i _ => ns.length - (intOf i).toNat)
  case atStart => exact ⟨0, Nat.zero_le _, rfl, World.ownsRow_nil _ _ _ _, Below.refl _ _⟩
  case round =>
    obtain ⟨k, hk, rfl, hown, hnx⟩ := hrel
    have hbw : Below w.heap.size w wr := (bal (Below.refl _ _) _).trans (hnx.mono (by omega))
    have hsz := hnx.size
    have hbx := HBx.out.1
    have q0 : wr.cell? ⟨w.heap.size, 0, none⟩ = some (.slice a0 ns.length c0) := (hnx.cell (show w.heap.size < w.heap.size + 1 from by omega)).trans hbx
    clear hbx
    by_cases hlt : k < ns.length
    · obtain ⟨b, off, rfl, hc⟩ := (hN.later hbw) (by omega)
      obtain ⟨d0, d1, d2, d3, d4, d5⟩ := hc k hlt
      have HAT := hide (hgs_at ns k hlt)
      have HOP := hide (HO.out k hlt)
      have HL := hide (hgs_len ns k)
      clear hc
      generalize ns[k] = nd at *
      obtain ⟨kd, v, x, y, z, n⟩ := nd
      simp only at *
      generalize hgs ns k = l at *
      obtain ⟨p, cap, rfl, hR⟩ := owns_bools hown
      have hw := takes_any kd
      have HRR := hide hR
      clear hR
      rcases takes_four kd with ht | ht | ht | ht
      · rw [ht] at hw
        have Hw := hide hw
        have HT := hide ht
        have HOPS : Hid (opsL ⟨kd, v, x, y, z, n⟩ = []) := by show opsL _ = _; unfold opsL; simp only; rw [ht]; rfl
        rw [HOPS.out] at HAT
        have HS0 : Hid (hgs ns (k + 1) = l ++ [(kd == 2) || (kd == 3)]) := by show _ = _; rw [HAT.out]; simp
        clear HAT HOP HO hw ht
        cases hq : (kd == 2)
        · have HS : Hid (hgs ns (k + 1) = l ++ [kd == 3]) := by show _ = _; rw [HS0.out, hq]; rfl
          clear HS0
          go_wp2_with (first | (go_at_call 40; refine (Hw.out _).mono ?_; rintro e w' ⟨rfl, rfl⟩) | (at_builtin; refine wpList_append_own _ rfl _ _ 59 rfl (w.heap.size + 1) 4 i0 (.bool false) 1 1 Try.underlying59 hi hz0 hz1 hz2 rfl (by decide) _ _ _ rfl ((hown.alloc _).alloc _) ⟨(wr.heap.size + 1), 0, none⟩ 1 1 [.bool (kd == 3)] rfl rfl ?c1 ?c2 ?c3 ?c4 ?c5 ?_))
          case c1 =>
            intro j u hj
            match j, hj with
            | 0, hj => simp at hj; subst hj; simp [Addr.add]
          case c2 => intro u hu; simp at hu; subst hu; rfl
          case c3 => have := HL.out; unfold maxLen; omega
          case c4 => have := HL.out; omega
          case c5 => have := HL.out; simp; simp at hsz; omega
          intro v' w1 hown' hgrow _
          have R := ownsB_later hown hown' hgrow hnx (by simp at hsz; omega)
          rw [← HS.out] at R
          clear hown' hgrow hown
          go_wp2
          go_roundw
          case rel => exact ⟨k + 1, by omega, by go_num, R.1, R.2⟩
          case measure => simp [intOf]; omega
        · have HS : Hid (hgs ns (k + 1) = l ++ [true]) := by show _ = _; rw [HS0.out, hq]; rfl
          clear HS0
          go_wp2_with (first | (go_at_call 40; refine (Hw.out _).mono ?_; rintro e w' ⟨rfl, rfl⟩) | (at_builtin; refine wpList_append_own _ rfl _ _ 59 rfl (w.heap.size + 1) 4 i0 (.bool false) 1 1 Try.underlying59 hi hz0 hz1 hz2 rfl (by decide) _ _ _ rfl ((hown.alloc _).alloc _) ⟨(wr.heap.size + 1), 0, none⟩ 1 1 [.bool (true)] rfl rfl ?c1 ?c2 ?c3 ?c4 ?c5 ?_))
          case c1 =>
            intro j u hj
            match j, hj with
            | 0, hj => simp at hj; subst hj; simp [Addr.add]
          case c2 => intro u hu; simp at hu; subst hu; rfl
          case c3 => have := HL.out; unfold maxLen; omega
          case c4 => have := HL.out; omega
          case c5 => have := HL.out; simp; simp at hsz; omega
          intro v' w1 hown' hgrow _
          have R := ownsB_later hown hown' hgrow hnx (by simp at hsz; omega)
          rw [← HS.out] at R
          clear hown' hgrow hown
          go_wp2
          go_roundw
          case rel => exact ⟨k + 1, by omega, by go_num, R.1, R.2⟩
          case measure => simp [intOf]; omega
      · rw [ht] at hw
        have Hw := hide hw
        have HT := hide ht
        have hk2 : (kd == 2) = false := by rcases Int.decEq kd 2 with h | h; simp [h]; (subst h; cases ht)
        have hk3 : (kd == 3) = false := by rcases Int.decEq kd 3 with h | h; simp [h]; (subst h; cases ht)
        have HOPS : Hid (opsL ⟨kd, v, x, y, z, n⟩ = [x]) := by show opsL _ = _; unfold opsL; simp only; rw [ht]; rfl
        rw [HOPS.out] at HAT HOP
        have o0 := HOP.out x (by simp)
        obtain ⟨g, rfl, hcs⟩ := HRR.out (by have := HL.out; omega)
        have u0 := fun o => past1 (getD_cell hcs x o0.1 (by have := HL.out; omega)) o
        have b0 : x < (l.length : Int) := by have := HL.out; omega
        clear hcs HRR
        have HS0 : Hid (hgs ns (k + 1) = l ++ [l.getD x.toNat false]) := by show _ = _; rw [HAT.out, hk2, hk3]; simp
        generalize l.getD x.toNat false = g0 at *
        clear HAT HOP HO hw ht
        have HS := HS0
        clear HS0
        go_wp2_with (first | (go_at_call 40; refine (Hw.out _).mono ?_; rintro e w' ⟨rfl, rfl⟩) | (at_builtin; refine wpList_append_own _ rfl _ _ 59 rfl (w.heap.size + 1) 4 i0 (.bool false) 1 1 Try.underlying59 hi hz0 hz1 hz2 rfl (by decide) _ _ _ rfl ((hown.alloc _).alloc _) ⟨(wr.heap.size + 1), 0, none⟩ 1 1 [.bool (g0)] rfl rfl ?c1 ?c2 ?c3 ?c4 ?c5 ?_))
        case c1 =>
          intro j u hj
          match j, hj with
          | 0, hj => simp at hj; subst hj; simp [Addr.add]
        case c2 => intro u hu; simp at hu; subst hu; rfl
        case c3 => have := HL.out; unfold maxLen; omega
        case c4 => have := HL.out; omega
        case c5 => have := HL.out; simp; simp at hsz; omega
        intro v' w1 hown' hgrow _
        have R := ownsB_later hown hown' hgrow hnx (by simp at hsz; omega)
        rw [← HS.out] at R
        clear hown' hgrow hown
        go_wp2
        go_roundw
        case rel => exact ⟨k + 1, by omega, by go_num, R.1, R.2⟩
        case measure => simp [intOf]; omega
      · rw [ht] at hw
        have Hw := hide hw
        have HT := hide ht
        have hk2 : (kd == 2) = false := by rcases Int.decEq kd 2 with h | h; simp [h]; (subst h; cases ht)
        have hk3 : (kd == 3) = false := by rcases Int.decEq kd 3 with h | h; simp [h]; (subst h; cases ht)
        have HOPS : Hid (opsL ⟨kd, v, x, y, z, n⟩ = [x, y]) := by show opsL _ = _; unfold opsL; simp only; rw [ht]; rfl
        rw [HOPS.out] at HAT HOP
        have o0 := HOP.out x (by simp)
        have o1 := HOP.out y (by simp)
        obtain ⟨g, rfl, hcs⟩ := HRR.out (by have := HL.out; omega)
        have u0 := fun o => past1 (getD_cell hcs x o0.1 (by have := HL.out; omega)) o
        have u1 := fun o => past1 (getD_cell hcs y o1.1 (by have := HL.out; omega)) o
        have b0 : x < (l.length : Int) := by have := HL.out; omega
        have b1 : y < (l.length : Int) := by have := HL.out; omega
        clear hcs HRR
        have HS0 : Hid (hgs ns (k + 1) = l ++ [l.getD x.toNat false || l.getD y.toNat false]) := by show _ = _; rw [HAT.out, hk2, hk3]; simp
        generalize l.getD x.toNat false = g0 at *
        generalize l.getD y.toNat false = g1 at *
        clear HAT HOP HO hw ht
        cases g0
        · have HS : Hid (hgs ns (k + 1) = l ++ [g1]) := by show _ = _; rw [HS0.out]; rfl
          clear HS0
          go_wp2_with (first | (go_at_call 40; refine (Hw.out _).mono ?_; rintro e w' ⟨rfl, rfl⟩) | (at_builtin; refine wpList_append_own _ rfl _ _ 59 rfl (w.heap.size + 1) 4 i0 (.bool false) 1 1 Try.underlying59 hi hz0 hz1 hz2 rfl (by decide) _ _ _ rfl ((hown.alloc _).alloc _) ⟨(wr.heap.size + 1), 0, none⟩ 1 1 [.bool (g1)] rfl rfl ?c1 ?c2 ?c3 ?c4 ?c5 ?_))
          case c1 =>
            intro j u hj
            match j, hj with
            | 0, hj => simp at hj; subst hj; simp [Addr.add]
          case c2 => intro u hu; simp at hu; subst hu; rfl
          case c3 => have := HL.out; unfold maxLen; omega
          case c4 => have := HL.out; omega
          case c5 => have := HL.out; simp; simp at hsz; omega
          intro v' w1 hown' hgrow _
          have R := ownsB_later hown hown' hgrow hnx (by simp at hsz; omega)
          rw [← HS.out] at R
          clear hown' hgrow hown
          go_wp2
          go_roundw
          case rel => exact ⟨k + 1, by omega, by go_num, R.1, R.2⟩
          case measure => simp [intOf]; omega
        · have HS : Hid (hgs ns (k + 1) = l ++ [true]) := by show _ = _; rw [HS0.out]; rfl
          clear HS0
          go_wp2_with (first | (go_at_call 40; refine (Hw.out _).mono ?_; rintro e w' ⟨rfl, rfl⟩) | (at_builtin; refine wpList_append_own _ rfl _ _ 59 rfl (w.heap.size + 1) 4 i0 (.bool false) 1 1 Try.underlying59 hi hz0 hz1 hz2 rfl (by decide) _ _ _ rfl ((hown.alloc _).alloc _) ⟨(wr.heap.size + 1), 0, none⟩ 1 1 [.bool (true)] rfl rfl ?c1 ?c2 ?c3 ?c4 ?c5 ?_))
          case c1 =>
            intro j u hj
            match j, hj with
            | 0, hj => simp at hj; subst hj; simp [Addr.add]
          case c2 => intro u hu; simp at hu; subst hu; rfl
          case c3 => have := HL.out; unfold maxLen; omega
          case c4 => have := HL.out; omega
          case c5 => have := HL.out; simp; simp at hsz; omega
          intro v' w1 hown' hgrow _
          have R := ownsB_later hown hown' hgrow hnx (by simp at hsz; omega)
          rw [← HS.out] at R
          clear hown' hgrow hown
          go_wp2
          go_roundw
          case rel => exact ⟨k + 1, by omega, by go_num, R.1, R.2⟩
          case measure => simp [intOf]; omega
      · rw [ht] at hw
        have Hw := hide hw
        have HT := hide ht
        have hk2 : (kd == 2) = false := by rcases Int.decEq kd 2 with h | h; simp [h]; (subst h; cases ht)
        have hk3 : (kd == 3) = false := by rcases Int.decEq kd 3 with h | h; simp [h]; (subst h; cases ht)
        have HOPS : Hid (opsL ⟨kd, v, x, y, z, n⟩ = [x, y, z]) := by show opsL _ = _; unfold opsL; simp only; rw [ht]; rfl
        rw [HOPS.out] at HAT HOP
        have o0 := HOP.out x (by simp)
        have o1 := HOP.out y (by simp)
        have o2 := HOP.out z (by simp)
        obtain ⟨g, rfl, hcs⟩ := HRR.out (by have := HL.out; omega)
        have u0 := fun o => past1 (getD_cell hcs x o0.1 (by have := HL.out; omega)) o
        have u1 := fun o => past1 (getD_cell hcs y o1.1 (by have := HL.out; omega)) o
        have u2 := fun o => past1 (getD_cell hcs z o2.1 (by have := HL.out; omega)) o
        have b0 : x < (l.length : Int) := by have := HL.out; omega
        have b1 : y < (l.length : Int) := by have := HL.out; omega
        have b2 : z < (l.length : Int) := by have := HL.out; omega
        clear hcs HRR
        have HS0 : Hid (hgs ns (k + 1) = l ++ [l.getD x.toNat false || l.getD y.toNat false || l.getD z.toNat false]) := by show _ = _; rw [HAT.out, hk2, hk3]; simp [Bool.or_assoc]
        generalize l.getD x.toNat false = g0 at *
        generalize l.getD y.toNat false = g1 at *
        generalize l.getD z.toNat false = g2 at *
        clear HAT HOP HO hw ht
        cases g0
        · cases g1
          · have HS : Hid (hgs ns (k + 1) = l ++ [g2]) := by show _ = _; rw [HS0.out]; rfl
            clear HS0
            go_wp2_with (first | (go_at_call 40; refine (Hw.out _).mono ?_; rintro e w' ⟨rfl, rfl⟩) | (at_builtin; refine wpList_append_own _ rfl _ _ 59 rfl (w.heap.size + 1) 4 i0 (.bool false) 1 1 Try.underlying59 hi hz0 hz1 hz2 rfl (by decide) _ _ _ rfl ((hown.alloc _).alloc _) ⟨(wr.heap.size + 1), 0, none⟩ 1 1 [.bool (g2)] rfl rfl ?c1 ?c2 ?c3 ?c4 ?c5 ?_))
            case c1 =>
              intro j u hj
              match j, hj with
              | 0, hj => simp at hj; subst hj; simp [Addr.add]
            case c2 => intro u hu; simp at hu; subst hu; rfl
            case c3 => have := HL.out; unfold maxLen; omega
            case c4 => have := HL.out; omega
            case c5 => have := HL.out; simp; simp at hsz; omega
            intro v' w1 hown' hgrow _
            have R := ownsB_later hown hown' hgrow hnx (by simp at hsz; omega)
            rw [← HS.out] at R
            clear hown' hgrow hown
            go_wp2
            go_roundw
            case rel => exact ⟨k + 1, by omega, by go_num, R.1, R.2⟩
            case measure => simp [intOf]; omega
          · have HS : Hid (hgs ns (k + 1) = l ++ [true]) := by show _ = _; rw [HS0.out]; rfl
            clear HS0
            go_wp2_with (first | (go_at_call 40; refine (Hw.out _).mono ?_; rintro e w' ⟨rfl, rfl⟩) | (at_builtin; refine wpList_append_own _ rfl _ _ 59 rfl (w.heap.size + 1) 4 i0 (.bool false) 1 1 Try.underlying59 hi hz0 hz1 hz2 rfl (by decide) _ _ _ rfl ((hown.alloc _).alloc _) ⟨(wr.heap.size + 1), 0, none⟩ 1 1 [.bool (true)] rfl rfl ?c1 ?c2 ?c3 ?c4 ?c5 ?_))
            case c1 =>
              intro j u hj
              match j, hj with
              | 0, hj => simp at hj; subst hj; simp [Addr.add]
            case c2 => intro u hu; simp at hu; subst hu; rfl
            case c3 => have := HL.out; unfold maxLen; omega
            case c4 => have := HL.out; omega
            case c5 => have := HL.out; simp; simp at hsz; omega
            intro v' w1 hown' hgrow _
            have R := ownsB_later hown hown' hgrow hnx (by simp at hsz; omega)
            rw [← HS.out] at R
            clear hown' hgrow hown
            go_wp2
            go_roundw
            case rel => exact ⟨k + 1, by omega, by go_num, R.1, R.2⟩
            case measure => simp [intOf]; omega
        · have HS : Hid (hgs ns (k + 1) = l ++ [true]) := by show _ = _; rw [HS0.out]; cases g1 <;> rfl
          clear HS0
          go_wp2_with (first | (go_at_call 40; refine (Hw.out _).mono ?_; rintro e w' ⟨rfl, rfl⟩) | (at_builtin; refine wpList_append_own _ rfl _ _ 59 rfl (w.heap.size + 1) 4 i0 (.bool false) 1 1 Try.underlying59 hi hz0 hz1 hz2 rfl (by decide) _ _ _ rfl ((hown.alloc _).alloc _) ⟨(wr.heap.size + 1), 0, none⟩ 1 1 [.bool (true)] rfl rfl ?c1 ?c2 ?c3 ?c4 ?c5 ?_))
          case c1 =>
            intro j u hj
            match j, hj with
            | 0, hj => simp at hj; subst hj; simp [Addr.add]
          case c2 => intro u hu; simp at hu; subst hu; rfl
          case c3 => have := HL.out; unfold maxLen; omega
          case c4 => have := HL.out; omega
          case c5 => have := HL.out; simp; simp at hsz; omega
          intro v' w1 hown' hgrow _
          have R := ownsB_later hown hown' hgrow hnx (by simp at hsz; omega)
          rw [← HS.out] at R
          clear hown' hgrow hown
          go_wp2
          go_roundw
          case rel => exact ⟨k + 1, by omega, by go_num, R.1, R.2⟩
          case measure => simp [intOf]; omega
    · obtain rfl : k = ns.length := by omega
      obtain ⟨p, cap, rfl, hI⟩ := owns_bools hown
      rw [hgs_len ns ns.length]
      go_wp2
      go_ret
      exact ⟨p, cap, rfl, hI, hbw⟩

end Go.Proofs.Ytfobcnhibhbbaaa
