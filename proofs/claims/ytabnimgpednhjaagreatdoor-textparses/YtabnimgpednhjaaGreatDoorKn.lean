/- TextParses' walk. -/
import Derived.Test.YtabnimgpednhjaaGreatDoorKm
import Derived.Test.YtabnimgpednhjaaGreatDoorKgM
namespace Go.Proofs.YtabnimgpednhjaaGreatDoor
open Go.RowKit Go.Deep
set_option maxRecDepth 100000

set_option maxHeartbeats 2000000 in
theorem parseModel_long (s : ByteArray) (h : 10000 < s.size) (w : World) : Calls Tryz.prog 10 #[.string s] w (ParseOut s w) := by
  have e : parseR s = (Md0, 0, 2) := by simp [parseR, h]
  unfold ParseOut
  rw [e]
  go_enter Tryz.func10, Tryz.ntmps10
  go_wp2
  exact bodyPost_ret (v := .tuple #[.agg #[.slice none 0 0, .slice none 0 0, .slice none 0 0, .slice none 0 0, .slice none 0 0], .int .i64 0, .int .i64 2]) (by simp [results, Tryz.results10, go_sem]) rfl ⟨_, rfl, noModel _, bal (Below.refl _ _) _⟩
theorem parse_all (s : ByteArray) (mx : Int) (w : World) (hm : w.cell? ⟨2, 0, none⟩ = some (.int .i64 mx)) (hSW : SW w) (hKW : KW w) : Calls Tryz.prog 9 #[.string s] w (ParseOut s w) := by
  by_cases h : 10000 < s.size
  · exact parse_long s h w
  · exact parse_any s (by omega) mx w hm hSW hKW
theorem parseModel_all (s : ByteArray) (w : World) : Calls Tryz.prog 10 #[.string s] w (ParseOut s w) := by
  by_cases h : 10000 < s.size
  · exact parseModel_long s h w
  · exact parseModel_any s (by omega) w
theorem parse_few (s : ByteArray) : (parseR s).1.few := by
  unfold parseR
  split
  · exact ⟨Nat.zero_le _, Nat.zero_le _, Nat.zero_le _, Nat.zero_le _, Nat.zero_le _⟩
  · rename_i h
    have key : ∀ (n : Nat) (m m' : Md) (s : ByteArray) (k : Nat), s.size ≤ n → m.within (k - 1) → 1 ≤ k → readM m s k = .ok m' → m'.within (k - 1 + n) := by
      intro n
      induction n with
      | zero =>
        intro m m' s k hn hw hk hr
        rw [readM_nil (by omega)] at hr
        cases hr
        exact hw
      | succ n ih =>
        intro m m' s k hn hw hk hr
        by_cases h0 : s.size = 0
        · rw [readM_nil h0] at hr
          cases hr
          obtain ⟨h1, h2, h3, h4, h5⟩ := hw
          exact ⟨by omega, by omega, by omega, by omega, by omega⟩
        · cases he : endsOf s with
          | false => rw [readM_no h0 he] at hr; cases hr
          | true =>
            cases hl : m.line (wordsOf (lineOf s)) with
            | none => rw [readM_none h0 he hl] at hr; cases hr
            | some m2 =>
              rw [readM_some h0 he hl] at hr
              have := ih m2 m' (restOf s) (k + 1) (by have := rest_size he; omega) (by have h := Md.line_within hl hw; rw [show k - 1 + 1 = k + 1 - 1 by omega] at h; exact h) (by omega) hr
              rw [show k - 1 + (n + 1) = k + 1 - 1 + n by omega]
              exact this
    split
    · exact ⟨Nat.zero_le _, Nat.zero_le _, Nat.zero_le _, Nat.zero_le _, Nat.zero_le _⟩
    · rename_i m hm
      have hw := key s.size Md0 m s 1 (Nat.le_refl _) ⟨Nat.zero_le _, Nat.zero_le _, Nat.zero_le _, Nat.zero_le _, Nat.zero_le _⟩ (Nat.le_refl _) hm
      split
      · exact hw.few (by omega)
      · exact ⟨Nat.zero_le _, Nat.zero_le _, Nat.zero_le _, Nat.zero_le _, Nat.zero_le _⟩
theorem same_all {m : Md} (hf : m.few) (u v : Value) (w : World) (hu : IsModel w u m) (hv : IsModel w v m) : Calls Tryz.prog 11 #[u, v] w fun e w' => e = .returned (.bool true) ∧ Below w.heap.size w w' := by
  obtain ⟨a0, a1, a2, a3, a4, c0, c1, c2, c3, c4, rfl, h0, h1, h2, h3, h4⟩ := hu
  obtain ⟨b0, b1, b2, b3, b4, e0, e1, e2, e3, e4, rfl, g0, g1, g2, g3, g4⟩ := hv
  obtain ⟨f0, f1, f2, f3, f4⟩ := hf
  exact Ev.sameModel_eq a0 a1 a2 a3 a4 b0 b1 b2 b3 b4 c0 c1 c2 c3 c4 e0 e1 e2 e3 e4 m.ns m.is m.xs m.bs m.hs (by unfold maxLen; omega) (by omega) (by omega) (by unfold maxLen; omega) (by unfold maxLen; omega) w h0 h1 h2 h3 h4 g0 g1 g2 g3 g4

set_option maxHeartbeats 8000000 in
theorem textParses_walk (s : ByteArray) (mx : Int) (w : World) (hm : w.cell? ⟨2, 0, none⟩ = some (.int .i64 mx)) (hKW : KW w) (hSW : SW w) (ht : Pow w) :
    Calls Tryz.prog 4 #[.string s] w fun e w' => e = .returned (.bool true) ∧ Below w.heap.size w w' := by
  have HTB := hide (fun w' (hb : Below w.heap.size w w') => textBegun_any mx w' (cell_later hb hm) (hSW.later hb) (hKW.later hb) (tab_later ht hb))
  have HP1 := hide (parse_all s mx w hm hSW hKW)
  have HP2 := hide (parseModel_all s)
  have HFW := hide (parse_few s)
  unfold ParseOut at HP1 HP2
  generalize parseR s = R at *
  obtain ⟨m, k, ce⟩ := R
  simp only at HP1 HP2 HFW
  clear hm hKW hSW ht
  go_enter Tryz.func4, Tryz.ntmps4
  go_wp2_with fail
  refine HP1.out.mono ?_
  rintro e w1 ⟨u, rfl, hu, hb1⟩
  obtain ⟨a0, a1, a2, a3, a4, c0, c1, c2, c3, c4, huu, -⟩ := id hu
  have huu2 : u = .agg #[.slice a0 m.ns.length c0, .slice a1 m.is.length c1, .slice a2 m.xs.length c2, .slice a3 m.bs.length c3, .slice a4 m.hs.length c4] := huu
  rw [huu2] at hu ⊢
  have HU := hide hu
  have HB1 := hide hb1
  clear hu hb1 huu huu2 HP1
  have hbA : Below w1.heap.size w1 (w1.alloc (.cells #[.slice a0 m.ns.length c0, .slice a1 m.is.length c1, .slice a2 m.xs.length c2, .slice a3 m.bs.length c3, .slice a4 m.hs.length c4] 26)) := bal (Below.refl _ _) _
  have x0 : (w1.alloc (.cells #[.slice a0 m.ns.length c0, .slice a1 m.is.length c1, .slice a2 m.xs.length c2, .slice a3 m.bs.length c3, .slice a4 m.hs.length c4] 26)).cell? ⟨w1.heap.size, 0, none⟩ = some (.slice a0 m.ns.length c0) := by simp [go_sem]
  have x1 : (w1.alloc (.cells #[.slice a0 m.ns.length c0, .slice a1 m.is.length c1, .slice a2 m.xs.length c2, .slice a3 m.bs.length c3, .slice a4 m.hs.length c4] 26)).cell? ⟨w1.heap.size, 1, none⟩ = some (.slice a1 m.is.length c1) := by simp [go_sem]
  have x2 : (w1.alloc (.cells #[.slice a0 m.ns.length c0, .slice a1 m.is.length c1, .slice a2 m.xs.length c2, .slice a3 m.bs.length c3, .slice a4 m.hs.length c4] 26)).cell? ⟨w1.heap.size, 2, none⟩ = some (.slice a2 m.xs.length c2) := by simp [go_sem]
  have x3 : (w1.alloc (.cells #[.slice a0 m.ns.length c0, .slice a1 m.is.length c1, .slice a2 m.xs.length c2, .slice a3 m.bs.length c3, .slice a4 m.hs.length c4] 26)).cell? ⟨w1.heap.size, 3, none⟩ = some (.slice a3 m.bs.length c3) := by simp [go_sem]
  have x4 : (w1.alloc (.cells #[.slice a0 m.ns.length c0, .slice a1 m.is.length c1, .slice a2 m.xs.length c2, .slice a3 m.bs.length c3, .slice a4 m.hs.length c4] 26)).cell? ⟨w1.heap.size, 4, none⟩ = some (.slice a4 m.hs.length c4) := by simp [go_sem]
  have HU2 := hide (HU.out.later hbA)
  have HB2 := hide (belowAl HB1.out hbA)
  go_wp2_with fail
  generalize w1.alloc (.cells #[.slice a0 m.ns.length c0, .slice a1 m.is.length c1, .slice a2 m.xs.length c2, .slice a3 m.bs.length c3, .slice a4 m.hs.length c4] 26) = W1 at *
  clear hbA HB1 HU
  generalize w1.heap.size = G1 at *
  refine (HP2.out _).mono ?_
  rintro e w2 ⟨v, rfl, hv, hb2⟩
  obtain ⟨b0, b1, b2, b3, b4, e0, e1, e2, e3, e4, hvv, -⟩ := id hv
  have hvv2 : v = .agg #[.slice b0 m.ns.length e0, .slice b1 m.is.length e1, .slice b2 m.xs.length e2, .slice b3 m.bs.length e3, .slice b4 m.hs.length e4] := hvv
  rw [hvv2] at hv ⊢
  replace x0 := cell_later hb2 x0
  replace x1 := cell_later hb2 x1
  replace x2 := cell_later hb2 x2
  replace x3 := cell_later hb2 x3
  replace x4 := cell_later hb2 x4
  have HU3 := hide (HU2.out.later hb2)
  have HB3 := hide (belowAl HB2.out hb2)
  have hbB : Below w2.heap.size w2 (w2.alloc (.cells #[.slice b0 m.ns.length e0, .slice b1 m.is.length e1, .slice b2 m.xs.length e2, .slice b3 m.bs.length e3, .slice b4 m.hs.length e4] 26)) := bal (Below.refl _ _) _
  have y0 : (w2.alloc (.cells #[.slice b0 m.ns.length e0, .slice b1 m.is.length e1, .slice b2 m.xs.length e2, .slice b3 m.bs.length e3, .slice b4 m.hs.length e4] 26)).cell? ⟨w2.heap.size, 0, none⟩ = some (.slice b0 m.ns.length e0) := by simp [go_sem]
  have y1 : (w2.alloc (.cells #[.slice b0 m.ns.length e0, .slice b1 m.is.length e1, .slice b2 m.xs.length e2, .slice b3 m.bs.length e3, .slice b4 m.hs.length e4] 26)).cell? ⟨w2.heap.size, 1, none⟩ = some (.slice b1 m.is.length e1) := by simp [go_sem]
  have y2 : (w2.alloc (.cells #[.slice b0 m.ns.length e0, .slice b1 m.is.length e1, .slice b2 m.xs.length e2, .slice b3 m.bs.length e3, .slice b4 m.hs.length e4] 26)).cell? ⟨w2.heap.size, 2, none⟩ = some (.slice b2 m.xs.length e2) := by simp [go_sem]
  have y3 : (w2.alloc (.cells #[.slice b0 m.ns.length e0, .slice b1 m.is.length e1, .slice b2 m.xs.length e2, .slice b3 m.bs.length e3, .slice b4 m.hs.length e4] 26)).cell? ⟨w2.heap.size, 3, none⟩ = some (.slice b3 m.bs.length e3) := by simp [go_sem]
  have y4 : (w2.alloc (.cells #[.slice b0 m.ns.length e0, .slice b1 m.is.length e1, .slice b2 m.xs.length e2, .slice b3 m.bs.length e3, .slice b4 m.hs.length e4] 26)).cell? ⟨w2.heap.size, 4, none⟩ = some (.slice b4 m.hs.length e4) := by simp [go_sem]
  replace x0 := cell_later hbB x0
  replace x1 := cell_later hbB x1
  replace x2 := cell_later hbB x2
  replace x3 := cell_later hbB x3
  replace x4 := cell_later hbB x4
  have HU4 := hide (HU3.out.later hbB)
  have HV4 := hide (hv.later hbB)
  have HB4 := hide (belowAl HB3.out hbB)
  clear hv hb2 HB2 HU2 hvv hvv2 HP2
  go_wp2_with fail
  generalize w2.alloc (.cells #[.slice b0 m.ns.length e0, .slice b1 m.is.length e1, .slice b2 m.xs.length e2, .slice b3 m.bs.length e3, .slice b4 m.hs.length e4] 26) = W2 at *
  clear hbB HB3 HU3
  generalize w2.heap.size = G2 at *
  have HSM : Hid (∀ w', Below W2.heap.size W2 w' → Calls Tryz.prog 11 #[.agg #[.slice a0 m.ns.length c0, .slice a1 m.is.length c1, .slice a2 m.xs.length c2, .slice a3 m.bs.length c3, .slice a4 m.hs.length c4], .agg #[.slice b0 m.ns.length e0, .slice b1 m.is.length e1, .slice b2 m.xs.length e2, .slice b3 m.bs.length e3, .slice b4 m.hs.length e4]] w' fun e w'' => e = .returned (.bool true) ∧ Below w'.heap.size w' w'') := fun w' hb => same_all HFW.out _ _ w' (HU4.out.later hb) (HV4.out.later hb)
  have HTB2 : Hid (∀ w', Below W2.heap.size W2 w' → Calls Tryz.prog 8 #[] w' fun e w'' => e = .returned (.bool true) ∧ Below w'.heap.size w' w'') := fun w' hb => HTB.out w' (belowAl HB4.out hb)
  refine (HTB2.out _ (Below.refl _ _)).mono ?_
  rintro e w3 ⟨rfl, hb3⟩
  replace x0 := cell_later hb3 x0
  replace y0 := cell_later hb3 y0
  replace x1 := cell_later hb3 x1
  replace y1 := cell_later hb3 y1
  replace x2 := cell_later hb3 x2
  replace y2 := cell_later hb3 y2
  replace x3 := cell_later hb3 x3
  replace y3 := cell_later hb3 y3
  replace x4 := cell_later hb3 x4
  replace y4 := cell_later hb3 y4
  have HB5 := hide (belowAl HB4.out hb3)
  have HC3 := hide (HSM.out _ hb3)
  clear hb3 HB4 HTB HTB2 HSM HU4 HV4
  go_wp2_with fail
  refine HC3.out.mono ?_
  rintro e w4 ⟨rfl, hb4⟩
  have HB6 := hide (belowAl HB5.out hb4)
  clear hb4 HB5 HC3
  go_wp2
  go_ret
  exact ⟨rfl, HB6.out⟩
end Go.Proofs.YtabnimgpednhjaaGreatDoor
