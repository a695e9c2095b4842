/- WordApplies: the plain text's Made, whatever the kind; and the law's walk. -/
import Derived.Test.YtabnimgpednhjaaRd
namespace Go.Proofs.Ytabnimgpednhjaa
open Go.RowKit

theorem made_right (k v a b c n wa wb wc : Int) (hfit : fitE k v n wa wb wc = 0) (ha : isW a wa = true) (hb : isW b wb = true) (w : World) :
    Calls Try.prog 17 #[.int .i64 k, .int .i64 v, .int .i64 a, .int .i64 b, .int .i64 c, .int .i64 n, arr3 wa wb wc] w fun e w' => e = .returned (.int .i64 (madeE k v a b c n wa wb)) ∧ Below w.heap.size w w' := by
  rcases kinds20 (fit_zero hfit).2.2.2.2 with rfl | rfl | rfl | rfl | rfl | rfl | rfl | rfl | rfl | rfl | rfl | rfl | rfl | rfl | rfl | rfl | rfl | rfl | rfl | rfl
  · exact made_4 v a b c n wa wb wc hfit ha hb w
  · exact made_5 v a b c n wa wb wc hfit ha hb w
  · exact made_6 v a b c n wa wb wc hfit ha hb w
  · exact made_7 v a b c n wa wb wc hfit ha hb w
  · exact made_8 v a b c n wa wb wc hfit ha hb w
  · exact made_9 v a b c n wa wb wc hfit ha hb w
  · exact made_10 v a b c n wa wb wc hfit ha hb w
  · exact made_11 v a b c n wa wb wc hfit ha hb w
  · exact made_12 v a b c n wa wb wc hfit ha hb w
  · exact made_13 v a b c n wa wb wc hfit ha hb w
  · exact made_14 v a b c n wa wb wc hfit ha hb w
  · exact made_15 v a b c n wa wb wc hfit ha hb w
  · exact made_16 v a b c n wa wb wc hfit ha hb w
  · exact made_17 v a b c n wa wb wc hfit ha hb w
  · exact made_18 v a b c n wa wb wc hfit ha hb w
  · exact made_19 v a b c n wa wb wc hfit ha hb w
  · exact made_20 v a b c n wa wb wc hfit ha hb w
  · exact made_21 v a b c n wa wb wc hfit ha hb w
  · exact made_22 v a b c n wa wb wc hfit ha hb w
  · exact made_23 v a b c n wa wb wc hfit ha hb w

abbrev ap (w : World) (b o : Nat) (x : Int) : Prop := w.cell? ⟨b, o, none⟩ = some (.int .i64 x)
/-- What lies in memory while the law goes on: the words, their widths, and the list of words. -/
def AppF (w wr : World) (S : Nat) (a b c wa wb wc : Int) : Prop :=
  Below w.heap.size w wr ∧ (ap wr w.heap.size 0 a ∧ ap wr w.heap.size 1 b ∧ ap wr w.heap.size 2 c) ∧ (ap wr (w.heap.size + 1) 0 wa ∧ ap wr (w.heap.size + 1) 1 wb ∧ ap wr (w.heap.size + 1) 2 wc) ∧ (ap wr S 0 a ∧ ap wr S 1 b ∧ ap wr S 2 c)

theorem AppF.drew {w wr : World} {S : Nat} {a b c wa wb wc : Int} (h : AppF w wr S a b c wa wb wc) (n : Nat) : AppF w (wr.drewN n) S a b c wa wb wc :=
  ⟨below_drewN h.1 n, h.2⟩

/-- Is the word at a place one of its width? -/
def goodAt (a b c wa wb wc : Int) (i : Nat) : Prop := (if i = 0 then isW a wa else if i = 1 then isW b wb else isW c wc) = true
theorem good_step {a b c wa wb wc : Int} {j : Nat} (h : ∀ i : Nat, i < j → goodAt a b c wa wb wc i) (hj : goodAt a b c wa wb wc j) : ∀ i : Nat, i < j + 1 → goodAt a b c wa wb wc i := by
  intro i hi
  rcases Nat.lt_succ_iff_lt_or_eq.1 hi with h1 | rfl
  · exact h i h1
  · exact hj
theorem good_all {a b c wa wb wc : Int} (h : ∀ i : Nat, i < 3 → goodAt a b c wa wb wc i) : isW a wa = true ∧ isW b wb = true ∧ isW c wc = true :=
  ⟨h 0 (by omega), h 1 (by omega), h 2 (by omega)⟩
theorem rng_one {a b c : Int} (h : rngOk 1 a b c = true) : (1 ≤ a ∧ a ≤ 8) ∧ b = 0 ∧ c = 0 := by
  simp [rngOk, btw] at h
  omega
theorem rng_two {a b c : Int} (h : rngOk 2 a b c = true) : (1 ≤ a ∧ a ≤ 8) ∧ (1 ≤ b ∧ b ≤ 8) ∧ c = 0 := by
  simp [rngOk, btw] at h
  omega
theorem rng_three {a b c : Int} (h : rngOk 3 a b c = true) : (1 ≤ a ∧ a ≤ 8) ∧ (1 ≤ b ∧ b ≤ 8) ∧ (1 ≤ c ∧ c ≤ 8) := by
  simp [rngOk, btw] at h
  omega

set_option maxRecDepth 100000 in
set_option maxHeartbeats 8000000 in
theorem applies_walk (k v a b c n wa wb wc : Int) (w : World) :
    Calls Try.prog 4 #[.int .i64 k, .int .i64 v, .agg #[.int .i64 a, .int .i64 b, .int .i64 c], .int .i64 n, arr3 wa wb wc] w fun e w' => e = .returned (.bool true) ∧ Below w.heap.size w w' := by
  go_enter Try.func4, Try.ntmps4
  go_wp2_with fail
  refine (apply_any k v a b c n wa wb wc _).mono ?_
  rintro e w1 ⟨rfl, hb1⟩
  have x0 := cell_later hb1 (a := ⟨w.heap.size, 0, none⟩) (v := .int .i64 a) (by simp [go_sem])
  have x1 := cell_later hb1 (a := ⟨w.heap.size, 1, none⟩) (v := .int .i64 b) (by simp [go_sem])
  have x2 := cell_later hb1 (a := ⟨w.heap.size, 2, none⟩) (v := .int .i64 c) (by simp [go_sem])
  have y0 := cell_later hb1 (a := ⟨w.heap.size + 1, 0, none⟩) (v := .int .i64 wa) (by simp [go_sem])
  have y1 := cell_later hb1 (a := ⟨w.heap.size + 1, 1, none⟩) (v := .int .i64 wb) (by simp [go_sem])
  have y2 := cell_later hb1 (a := ⟨w.heap.size + 1, 2, none⟩) (v := .int .i64 wc) (by simp [go_sem])
  have hbw := bthen (bal (bal (Below.refl w.heap.size w) _) _) hb1
  clear hb1
  go_wp2_with fail
  refine (refOf_any k v n wa wb wc _).mono ?_
  rintro e w2 ⟨rfl, hb2⟩
  replace x0 := cell_later hb2 x0
  replace x1 := cell_later hb2 x1
  replace x2 := cell_later hb2 x2
  replace y0 := cell_later hb2 y0
  replace y1 := cell_later hb2 y1
  replace y2 := cell_later hb2 y2
  replace hbw := bthen hbw hb2
  clear hb2
  go_wp2_with fail
  have hF0 : AppF w (w2.alloc (.cells #[.int .i64 a, .int .i64 b, .int .i64 c] 3)) w2.heap.size a b c wa wb wc := by
    have hh : w.heap.size + 1 < w2.heap.size := World.block_lt_of_cell? _ _ y0
    refine ⟨bal hbw _, ⟨?_, ?_, ?_⟩, ⟨?_, ?_, ?_⟩, ?_, ?_, ?_⟩
    · exact (World.cell?_alloc_past _ _ _ (by omega)).trans x0
    · exact (World.cell?_alloc_past _ _ _ (by omega)).trans x1
    · exact (World.cell?_alloc_past _ _ _ (by omega)).trans x2
    · exact (World.cell?_alloc_past _ _ _ (by omega)).trans y0
    · exact (World.cell?_alloc_past _ _ _ (by omega)).trans y1
    · exact (World.cell?_alloc_past _ _ _ (by omega)).trans y2
    all_goals (show World.cell? _ _ = _; simp [go_sem])
  have HF0 : Hid _ := hF0
  clear hF0 x0 x1 x2 y0 y1 y2
  by_cases hf : fitE k v n wa wb wc = 0
  · obtain ⟨hv, hr, _, _, _⟩ := fit_zero hf
    have htk := takes_any k
    have HR : Hid _ := hr
    have HFit : Hid _ := hf
    rw [hf]
    have t4 : takes k = 1 ∨ takes k = 2 ∨ takes k = 3 := by
      have := takes_four k
      rcases this with h | h
      · exfalso
        have := (takes_shape k).1 h
        have h7 : fitE k v n wa wb wc = 7 := by unfold fitE; rw [if_pos this]
        omega
      · exact h
    have HEV : Hid ((allW a b c wa wb wc = false → apE k v a b c n wa wb wc = 3 ∧ apV k v a b c n wa wb wc = 0) ∧ (allW a b c wa wb wc = true → apE k v a b c n wa wb wc = 0 ∧ apV k v a b c n wa wb wc = madeE k v a b c n wa wb)) := by
      refine ⟨fun h => ?_, fun h => ?_⟩
      · have e1 : apE k v a b c n wa wb wc = 3 := by simp [apE, hf, h]
        exact ⟨e1, by simp [apV, e1]⟩
      · have e1 : apE k v a b c n wa wb wc = 0 := by simp [apE, hf, h]
        exact ⟨e1, by simp [apV, e1]⟩
    clear hf hr
    generalize apE k v a b c n wa wb wc = E at *
    generalize apV k v a b c n wa wb wc = V at *
    go_loopw [13, 16] (fun e i wr => ∃ j : Nat, j ≤ 3 ∧ i = .int .i64 j ∧ AppF w wr w2.heap.size a b c wa wb wc ∧ ((e = .int .i64 0 ∧ ∀ i : Nat, i < j → goodAt a b c wa wb wc i) ∨ (e = .int .i64 3 ∧ allW a b c wa wb wc = false))) (fun _ i _ => 4 - (intOf i).toNat)
    case atStart => exact ⟨0, by omega, rfl, HF0.out, Or.inl ⟨rfl, fun i hi => by omega⟩⟩
    case round =>
      obtain ⟨j, hj, rfl, hF, hcase⟩ := hrel
      rcases hcase with ⟨rfl, hg⟩ | ⟨rfl, hbad⟩
      · have hj4 : j = 0 ∨ j = 1 ∨ j = 2 ∨ j = 3 := by omega
        rcases hj4 with rfl | rfl | rfl | rfl
        · obtain ⟨hbl, ⟨x0, x1, x2⟩, ⟨y0, y1, y2⟩, z0, z1, z2⟩ := hF
          have hF : Hid (AppF w wr w2.heap.size a b c wa wb wc) := ⟨hbl, ⟨x0, x1, x2⟩, ⟨y0, y1, y2⟩, z0, z1, z2⟩
          have hgH : Hid _ := hg
          clear hg hbl
          rcases t4 with ht | ht | ht
          · rw [ht] at htk
            have Htk : Hid _ := htk
            obtain ⟨r0, r1, r2⟩ := rng_one (show rngOk 1 wa wb wc = true from by have := HR.out; rwa [ht] at this)
            clear htk ht
            have R1 : Hid _ := r1
            have R2 : Hid _ := r2
            clear r1 r2
            have hw8 : 1 ≤ wa ∧ wa ≤ 8 := r0
            have tt := two_bd (v := wa) (by omega)
            by_cases hl0 : a < 0
            · have hd : decide (a < 0) = true := by simp [hl0]
              have HBad : Hid (allW a b c wa wb wc = false) := by unfold allW; rw [show isW a wa = false from by simp [isW]; omega]; simp [Hid]
              go_wp2_with fail
              go_quiet (first | (go_at_call 15; exact Calls.quiet_of_same (Htk.out _)) | (go_at_call 16; exact Calls.quiet_of_same (two_any _ (by omega) (by omega) _)))
              go_wp2
              first | exact ⟨⟨0+1, by omega, rfl, hF.out.drew _, Or.inr ⟨rfl, HBad.out⟩⟩, by simp [intOf]⟩ | (go_roundw; (case rel => exact ⟨0+1, by omega, rfl, hF.out.drew _, Or.inr ⟨rfl, HBad.out⟩⟩); (case measure => simp [intOf]))
            · have hd : decide (a < 0) = false := by simp; omega
              by_cases hl1 : two wa ≤ a
              · have HBad : Hid (allW a b c wa wb wc = false) := by unfold allW; rw [show isW a wa = false from by simp [isW]; omega]; simp [Hid]
                go_wp2_with fail
                go_quiet (first | (go_at_call 15; exact Calls.quiet_of_same (Htk.out _)) | (go_at_call 16; exact Calls.quiet_of_same (two_any _ (by omega) (by omega) _)))
                go_wp2
                first | exact ⟨⟨0+1, by omega, rfl, hF.out.drew _, Or.inr ⟨rfl, HBad.out⟩⟩, by simp [intOf]⟩ | (go_roundw; (case rel => exact ⟨0+1, by omega, rfl, hF.out.drew _, Or.inr ⟨rfl, HBad.out⟩⟩); (case measure => simp [intOf]))
              · have hd2 : decide (two wa ≤ a) = false := by simp; omega
                have HG : Hid (∀ i : Nat, i < 0+1 → goodAt a b c wa wb wc i) := good_step hgH.out (isW_iff.2 (by omega))
                go_wp2_with fail
                go_quiet (first | (go_at_call 15; exact Calls.quiet_of_same (Htk.out _)) | (go_at_call 16; exact Calls.quiet_of_same (two_any _ (by omega) (by omega) _)))
                go_wp2
                exact ⟨⟨0+1, by omega, rfl, hF.out.drew _, Or.inl ⟨rfl, HG.out⟩⟩, by simp [intOf]⟩
          · rw [ht] at htk
            have Htk : Hid _ := htk
            obtain ⟨r0, r1, r2⟩ := rng_two (show rngOk 2 wa wb wc = true from by have := HR.out; rwa [ht] at this)
            clear htk ht
            have R2 : Hid _ := r2
            clear r2
            have hw8 : 1 ≤ wa ∧ wa ≤ 8 := r0
            have tt := two_bd (v := wa) (by omega)
            by_cases hl0 : a < 0
            · have hd : decide (a < 0) = true := by simp [hl0]
              have HBad : Hid (allW a b c wa wb wc = false) := by unfold allW; rw [show isW a wa = false from by simp [isW]; omega]; simp [Hid]
              go_wp2_with fail
              go_quiet (first | (go_at_call 15; exact Calls.quiet_of_same (Htk.out _)) | (go_at_call 16; exact Calls.quiet_of_same (two_any _ (by omega) (by omega) _)))
              go_wp2
              first | exact ⟨⟨0+1, by omega, rfl, hF.out.drew _, Or.inr ⟨rfl, HBad.out⟩⟩, by simp [intOf]⟩ | (go_roundw; (case rel => exact ⟨0+1, by omega, rfl, hF.out.drew _, Or.inr ⟨rfl, HBad.out⟩⟩); (case measure => simp [intOf]))
            · have hd : decide (a < 0) = false := by simp; omega
              by_cases hl1 : two wa ≤ a
              · have HBad : Hid (allW a b c wa wb wc = false) := by unfold allW; rw [show isW a wa = false from by simp [isW]; omega]; simp [Hid]
                go_wp2_with fail
                go_quiet (first | (go_at_call 15; exact Calls.quiet_of_same (Htk.out _)) | (go_at_call 16; exact Calls.quiet_of_same (two_any _ (by omega) (by omega) _)))
                go_wp2
                first | exact ⟨⟨0+1, by omega, rfl, hF.out.drew _, Or.inr ⟨rfl, HBad.out⟩⟩, by simp [intOf]⟩ | (go_roundw; (case rel => exact ⟨0+1, by omega, rfl, hF.out.drew _, Or.inr ⟨rfl, HBad.out⟩⟩); (case measure => simp [intOf]))
              · have hd2 : decide (two wa ≤ a) = false := by simp; omega
                have HG : Hid (∀ i : Nat, i < 0+1 → goodAt a b c wa wb wc i) := good_step hgH.out (isW_iff.2 (by omega))
                go_wp2_with fail
                go_quiet (first | (go_at_call 15; exact Calls.quiet_of_same (Htk.out _)) | (go_at_call 16; exact Calls.quiet_of_same (two_any _ (by omega) (by omega) _)))
                go_wp2
                exact ⟨⟨0+1, by omega, rfl, hF.out.drew _, Or.inl ⟨rfl, HG.out⟩⟩, by simp [intOf]⟩
          · rw [ht] at htk
            have Htk : Hid _ := htk
            obtain ⟨r0, r1, r2⟩ := rng_three (show rngOk 3 wa wb wc = true from by have := HR.out; rwa [ht] at this)
            clear htk ht
            have hw8 : 1 ≤ wa ∧ wa ≤ 8 := r0
            have tt := two_bd (v := wa) (by omega)
            by_cases hl0 : a < 0
            · have hd : decide (a < 0) = true := by simp [hl0]
              have HBad : Hid (allW a b c wa wb wc = false) := by unfold allW; rw [show isW a wa = false from by simp [isW]; omega]; simp [Hid]
              go_wp2_with fail
              go_quiet (first | (go_at_call 15; exact Calls.quiet_of_same (Htk.out _)) | (go_at_call 16; exact Calls.quiet_of_same (two_any _ (by omega) (by omega) _)))
              go_wp2
              first | exact ⟨⟨0+1, by omega, rfl, hF.out.drew _, Or.inr ⟨rfl, HBad.out⟩⟩, by simp [intOf]⟩ | (go_roundw; (case rel => exact ⟨0+1, by omega, rfl, hF.out.drew _, Or.inr ⟨rfl, HBad.out⟩⟩); (case measure => simp [intOf]))
            · have hd : decide (a < 0) = false := by simp; omega
              by_cases hl1 : two wa ≤ a
              · have HBad : Hid (allW a b c wa wb wc = false) := by unfold allW; rw [show isW a wa = false from by simp [isW]; omega]; simp [Hid]
                go_wp2_with fail
                go_quiet (first | (go_at_call 15; exact Calls.quiet_of_same (Htk.out _)) | (go_at_call 16; exact Calls.quiet_of_same (two_any _ (by omega) (by omega) _)))
                go_wp2
                first | exact ⟨⟨0+1, by omega, rfl, hF.out.drew _, Or.inr ⟨rfl, HBad.out⟩⟩, by simp [intOf]⟩ | (go_roundw; (case rel => exact ⟨0+1, by omega, rfl, hF.out.drew _, Or.inr ⟨rfl, HBad.out⟩⟩); (case measure => simp [intOf]))
              · have hd2 : decide (two wa ≤ a) = false := by simp; omega
                have HG : Hid (∀ i : Nat, i < 0+1 → goodAt a b c wa wb wc i) := good_step hgH.out (isW_iff.2 (by omega))
                go_wp2_with fail
                go_quiet (first | (go_at_call 15; exact Calls.quiet_of_same (Htk.out _)) | (go_at_call 16; exact Calls.quiet_of_same (two_any _ (by omega) (by omega) _)))
                go_wp2
                exact ⟨⟨0+1, by omega, rfl, hF.out.drew _, Or.inl ⟨rfl, HG.out⟩⟩, by simp [intOf]⟩
        · obtain ⟨hbl, ⟨x0, x1, x2⟩, ⟨y0, y1, y2⟩, z0, z1, z2⟩ := hF
          have hF : Hid (AppF w wr w2.heap.size a b c wa wb wc) := ⟨hbl, ⟨x0, x1, x2⟩, ⟨y0, y1, y2⟩, z0, z1, z2⟩
          have hgH : Hid _ := hg
          clear hg hbl
          rcases t4 with ht | ht | ht
          · rw [ht] at htk
            have Htk : Hid _ := htk
            obtain ⟨r0, r1, r2⟩ := rng_one (show rngOk 1 wa wb wc = true from by have := HR.out; rwa [ht] at this)
            clear htk ht
            have R1 : Hid _ := r1
            have R2 : Hid _ := r2
            clear r1 r2
            have hw0 : wb = 0 := R1.out
            by_cases hl0 : b = 0
            · have hd : (b != 0) = false := by simp [hl0]
              have HG : Hid (∀ i : Nat, i < 1+1 → goodAt a b c wa wb wc i) := good_step hgH.out (by show isW b wb = true; rw [hw0, hl0]; decide)
              clear hl0 hw0
              go_wp2_with fail
              go_quiet (first | (go_at_call 15; exact Calls.quiet_of_same (Htk.out _)) | (go_at_call 16; exact Calls.quiet_of_same (two_any _ (by omega) (by omega) _)))
              go_wp2
              exact ⟨⟨1+1, by omega, rfl, hF.out.drew _, Or.inl ⟨rfl, HG.out⟩⟩, by simp [intOf]⟩
            · have hd : (b != 0) = true := by simp [hl0]
              have HBad : Hid (allW a b c wa wb wc = false) := by unfold allW; rw [hw0, show isW b 0 = false from decide_eq_false (by rw [two0]; omega)]; simp [Hid]
              clear hl0 hw0
              go_wp2_with fail
              go_quiet (first | (go_at_call 15; exact Calls.quiet_of_same (Htk.out _)) | (go_at_call 16; exact Calls.quiet_of_same (two_any _ (by omega) (by omega) _)))
              go_wp2
              first | exact ⟨⟨1+1, by omega, rfl, hF.out.drew _, Or.inr ⟨rfl, HBad.out⟩⟩, by simp [intOf]⟩ | (go_roundw; (case rel => exact ⟨1+1, by omega, rfl, hF.out.drew _, Or.inr ⟨rfl, HBad.out⟩⟩); (case measure => simp [intOf]))
          · rw [ht] at htk
            have Htk : Hid _ := htk
            obtain ⟨r0, r1, r2⟩ := rng_two (show rngOk 2 wa wb wc = true from by have := HR.out; rwa [ht] at this)
            clear htk ht
            have R2 : Hid _ := r2
            clear r2
            have hw8 : 1 ≤ wb ∧ wb ≤ 8 := r1
            have tt := two_bd (v := wb) (by omega)
            by_cases hl0 : b < 0
            · have hd : decide (b < 0) = true := by simp [hl0]
              have HBad : Hid (allW a b c wa wb wc = false) := by unfold allW; rw [show isW b wb = false from by simp [isW]; omega]; simp [Hid]
              go_wp2_with fail
              go_quiet (first | (go_at_call 15; exact Calls.quiet_of_same (Htk.out _)) | (go_at_call 16; exact Calls.quiet_of_same (two_any _ (by omega) (by omega) _)))
              go_wp2
              first | exact ⟨⟨1+1, by omega, rfl, hF.out.drew _, Or.inr ⟨rfl, HBad.out⟩⟩, by simp [intOf]⟩ | (go_roundw; (case rel => exact ⟨1+1, by omega, rfl, hF.out.drew _, Or.inr ⟨rfl, HBad.out⟩⟩); (case measure => simp [intOf]))
            · have hd : decide (b < 0) = false := by simp; omega
              by_cases hl1 : two wb ≤ b
              · have HBad : Hid (allW a b c wa wb wc = false) := by unfold allW; rw [show isW b wb = false from by simp [isW]; omega]; simp [Hid]
                go_wp2_with fail
                go_quiet (first | (go_at_call 15; exact Calls.quiet_of_same (Htk.out _)) | (go_at_call 16; exact Calls.quiet_of_same (two_any _ (by omega) (by omega) _)))
                go_wp2
                first | exact ⟨⟨1+1, by omega, rfl, hF.out.drew _, Or.inr ⟨rfl, HBad.out⟩⟩, by simp [intOf]⟩ | (go_roundw; (case rel => exact ⟨1+1, by omega, rfl, hF.out.drew _, Or.inr ⟨rfl, HBad.out⟩⟩); (case measure => simp [intOf]))
              · have hd2 : decide (two wb ≤ b) = false := by simp; omega
                have HG : Hid (∀ i : Nat, i < 1+1 → goodAt a b c wa wb wc i) := good_step hgH.out (isW_iff.2 (by omega))
                go_wp2_with fail
                go_quiet (first | (go_at_call 15; exact Calls.quiet_of_same (Htk.out _)) | (go_at_call 16; exact Calls.quiet_of_same (two_any _ (by omega) (by omega) _)))
                go_wp2
                exact ⟨⟨1+1, by omega, rfl, hF.out.drew _, Or.inl ⟨rfl, HG.out⟩⟩, by simp [intOf]⟩
          · rw [ht] at htk
            have Htk : Hid _ := htk
            obtain ⟨r0, r1, r2⟩ := rng_three (show rngOk 3 wa wb wc = true from by have := HR.out; rwa [ht] at this)
            clear htk ht
            have hw8 : 1 ≤ wb ∧ wb ≤ 8 := r1
            have tt := two_bd (v := wb) (by omega)
            by_cases hl0 : b < 0
            · have hd : decide (b < 0) = true := by simp [hl0]
              have HBad : Hid (allW a b c wa wb wc = false) := by unfold allW; rw [show isW b wb = false from by simp [isW]; omega]; simp [Hid]
              go_wp2_with fail
              go_quiet (first | (go_at_call 15; exact Calls.quiet_of_same (Htk.out _)) | (go_at_call 16; exact Calls.quiet_of_same (two_any _ (by omega) (by omega) _)))
              go_wp2
              first | exact ⟨⟨1+1, by omega, rfl, hF.out.drew _, Or.inr ⟨rfl, HBad.out⟩⟩, by simp [intOf]⟩ | (go_roundw; (case rel => exact ⟨1+1, by omega, rfl, hF.out.drew _, Or.inr ⟨rfl, HBad.out⟩⟩); (case measure => simp [intOf]))
            · have hd : decide (b < 0) = false := by simp; omega
              by_cases hl1 : two wb ≤ b
              · have HBad : Hid (allW a b c wa wb wc = false) := by unfold allW; rw [show isW b wb = false from by simp [isW]; omega]; simp [Hid]
                go_wp2_with fail
                go_quiet (first | (go_at_call 15; exact Calls.quiet_of_same (Htk.out _)) | (go_at_call 16; exact Calls.quiet_of_same (two_any _ (by omega) (by omega) _)))
                go_wp2
                first | exact ⟨⟨1+1, by omega, rfl, hF.out.drew _, Or.inr ⟨rfl, HBad.out⟩⟩, by simp [intOf]⟩ | (go_roundw; (case rel => exact ⟨1+1, by omega, rfl, hF.out.drew _, Or.inr ⟨rfl, HBad.out⟩⟩); (case measure => simp [intOf]))
              · have hd2 : decide (two wb ≤ b) = false := by simp; omega
                have HG : Hid (∀ i : Nat, i < 1+1 → goodAt a b c wa wb wc i) := good_step hgH.out (isW_iff.2 (by omega))
                go_wp2_with fail
                go_quiet (first | (go_at_call 15; exact Calls.quiet_of_same (Htk.out _)) | (go_at_call 16; exact Calls.quiet_of_same (two_any _ (by omega) (by omega) _)))
                go_wp2
                exact ⟨⟨1+1, by omega, rfl, hF.out.drew _, Or.inl ⟨rfl, HG.out⟩⟩, by simp [intOf]⟩
        · obtain ⟨hbl, ⟨x0, x1, x2⟩, ⟨y0, y1, y2⟩, z0, z1, z2⟩ := hF
          have hF : Hid (AppF w wr w2.heap.size a b c wa wb wc) := ⟨hbl, ⟨x0, x1, x2⟩, ⟨y0, y1, y2⟩, z0, z1, z2⟩
          have hgH : Hid _ := hg
          clear hg hbl
          rcases t4 with ht | ht | ht
          · rw [ht] at htk
            have Htk : Hid _ := htk
            obtain ⟨r0, r1, r2⟩ := rng_one (show rngOk 1 wa wb wc = true from by have := HR.out; rwa [ht] at this)
            clear htk ht
            have R1 : Hid _ := r1
            have R2 : Hid _ := r2
            clear r1 r2
            have hw0 : wc = 0 := R2.out
            by_cases hl0 : c = 0
            · have hd : (c != 0) = false := by simp [hl0]
              have HG : Hid (∀ i : Nat, i < 2+1 → goodAt a b c wa wb wc i) := good_step hgH.out (by show isW c wc = true; rw [hw0, hl0]; decide)
              clear hl0 hw0
              go_wp2_with fail
              go_quiet (first | (go_at_call 15; exact Calls.quiet_of_same (Htk.out _)) | (go_at_call 16; exact Calls.quiet_of_same (two_any _ (by omega) (by omega) _)))
              go_wp2
              exact ⟨⟨2+1, by omega, rfl, hF.out.drew _, Or.inl ⟨rfl, HG.out⟩⟩, by simp [intOf]⟩
            · have hd : (c != 0) = true := by simp [hl0]
              have HBad : Hid (allW a b c wa wb wc = false) := by unfold allW; rw [hw0, show isW c 0 = false from decide_eq_false (by rw [two0]; omega)]; simp [Hid]
              clear hl0 hw0
              go_wp2_with fail
              go_quiet (first | (go_at_call 15; exact Calls.quiet_of_same (Htk.out _)) | (go_at_call 16; exact Calls.quiet_of_same (two_any _ (by omega) (by omega) _)))
              go_wp2
              first | exact ⟨⟨2+1, by omega, rfl, hF.out.drew _, Or.inr ⟨rfl, HBad.out⟩⟩, by simp [intOf]⟩ | (go_roundw; (case rel => exact ⟨2+1, by omega, rfl, hF.out.drew _, Or.inr ⟨rfl, HBad.out⟩⟩); (case measure => simp [intOf]))
          · rw [ht] at htk
            have Htk : Hid _ := htk
            obtain ⟨r0, r1, r2⟩ := rng_two (show rngOk 2 wa wb wc = true from by have := HR.out; rwa [ht] at this)
            clear htk ht
            have R2 : Hid _ := r2
            clear r2
            have hw0 : wc = 0 := R2.out
            by_cases hl0 : c = 0
            · have hd : (c != 0) = false := by simp [hl0]
              have HG : Hid (∀ i : Nat, i < 2+1 → goodAt a b c wa wb wc i) := good_step hgH.out (by show isW c wc = true; rw [hw0, hl0]; decide)
              clear hl0 hw0
              go_wp2_with fail
              go_quiet (first | (go_at_call 15; exact Calls.quiet_of_same (Htk.out _)) | (go_at_call 16; exact Calls.quiet_of_same (two_any _ (by omega) (by omega) _)))
              go_wp2
              exact ⟨⟨2+1, by omega, rfl, hF.out.drew _, Or.inl ⟨rfl, HG.out⟩⟩, by simp [intOf]⟩
            · have hd : (c != 0) = true := by simp [hl0]
              have HBad : Hid (allW a b c wa wb wc = false) := by unfold allW; rw [hw0, show isW c 0 = false from decide_eq_false (by rw [two0]; omega)]; simp [Hid]
              clear hl0 hw0
              go_wp2_with fail
              go_quiet (first | (go_at_call 15; exact Calls.quiet_of_same (Htk.out _)) | (go_at_call 16; exact Calls.quiet_of_same (two_any _ (by omega) (by omega) _)))
              go_wp2
              first | exact ⟨⟨2+1, by omega, rfl, hF.out.drew _, Or.inr ⟨rfl, HBad.out⟩⟩, by simp [intOf]⟩ | (go_roundw; (case rel => exact ⟨2+1, by omega, rfl, hF.out.drew _, Or.inr ⟨rfl, HBad.out⟩⟩); (case measure => simp [intOf]))
          · rw [ht] at htk
            have Htk : Hid _ := htk
            obtain ⟨r0, r1, r2⟩ := rng_three (show rngOk 3 wa wb wc = true from by have := HR.out; rwa [ht] at this)
            clear htk ht
            have hw8 : 1 ≤ wc ∧ wc ≤ 8 := r2
            have tt := two_bd (v := wc) (by omega)
            by_cases hl0 : c < 0
            · have hd : decide (c < 0) = true := by simp [hl0]
              have HBad : Hid (allW a b c wa wb wc = false) := by unfold allW; rw [show isW c wc = false from by simp [isW]; omega]; simp [Hid]
              go_wp2_with fail
              go_quiet (first | (go_at_call 15; exact Calls.quiet_of_same (Htk.out _)) | (go_at_call 16; exact Calls.quiet_of_same (two_any _ (by omega) (by omega) _)))
              go_wp2
              first | exact ⟨⟨2+1, by omega, rfl, hF.out.drew _, Or.inr ⟨rfl, HBad.out⟩⟩, by simp [intOf]⟩ | (go_roundw; (case rel => exact ⟨2+1, by omega, rfl, hF.out.drew _, Or.inr ⟨rfl, HBad.out⟩⟩); (case measure => simp [intOf]))
            · have hd : decide (c < 0) = false := by simp; omega
              by_cases hl1 : two wc ≤ c
              · have HBad : Hid (allW a b c wa wb wc = false) := by unfold allW; rw [show isW c wc = false from by simp [isW]; omega]; simp [Hid]
                go_wp2_with fail
                go_quiet (first | (go_at_call 15; exact Calls.quiet_of_same (Htk.out _)) | (go_at_call 16; exact Calls.quiet_of_same (two_any _ (by omega) (by omega) _)))
                go_wp2
                first | exact ⟨⟨2+1, by omega, rfl, hF.out.drew _, Or.inr ⟨rfl, HBad.out⟩⟩, by simp [intOf]⟩ | (go_roundw; (case rel => exact ⟨2+1, by omega, rfl, hF.out.drew _, Or.inr ⟨rfl, HBad.out⟩⟩); (case measure => simp [intOf]))
              · have hd2 : decide (two wc ≤ c) = false := by simp; omega
                have HG : Hid (∀ i : Nat, i < 2+1 → goodAt a b c wa wb wc i) := good_step hgH.out (isW_iff.2 (by omega))
                go_wp2_with fail
                go_quiet (first | (go_at_call 15; exact Calls.quiet_of_same (Htk.out _)) | (go_at_call 16; exact Calls.quiet_of_same (two_any _ (by omega) (by omega) _)))
                go_wp2
                exact ⟨⟨2+1, by omega, rfl, hF.out.drew _, Or.inl ⟨rfl, HG.out⟩⟩, by simp [intOf]⟩
        · obtain ⟨ga, gb, gc⟩ := good_all hg
          have hev := HEV.out.2 (by unfold allW; rw [ga, gb, gc]; rfl)
          have HV : Hid _ := hev.2
          have hE0 := hev.1
          clear hev hg HEV
          subst hE0
          obtain ⟨hbl, ⟨x0, x1, x2⟩, ⟨y0, y1, y2⟩, z0, z1, z2⟩ := hF
          go_wp2_with fail
          refine (made_right k v a b c n wa wb wc HFit.out ga gb _).mono ?_
          rintro e w4 ⟨rfl, hb4⟩
          rw [← HV.out]
          go_wp2_with fail
          refine (begun_any _).mono ?_
          rintro e w5 ⟨rfl, hb5⟩
          go_wp2
          go_ret
          exact ⟨ret_bool (by simp), bthen (bthen hbl hb4) hb5⟩
      · have hev := HEV.out.1 hbad
        have hE0 := hev.1
        have hV0 := hev.2
        clear hev HEV hbad
        subst hE0 hV0
        by_cases hlt : j < 3
        all_goals
          go_wp2_with fail
          refine (begun_any _).mono ?_
          rintro e w5 ⟨rfl, hb5⟩
          go_wp2
          go_ret
          exact ⟨ret_bool (by simp), bthen hF.1 hb5⟩
  · have e1 : apE k v a b c n wa wb wc = fitE k v n wa wb wc := by simp [apE, hf]
    have e2 : apV k v a b c n wa wb wc = 0 := by simp [apV, e1, hf]
    rw [e1, e2]
    have hne : (fitE k v n wa wb wc == 0) = false := by simp [hf]
    clear e1 e2 hf
    generalize fitE k v n wa wb wc = F at *
    refine wp_loop_rounds 1 ?_
    rw [rounds_succ]
    go_wp2_with fail
    refine (begun_any _).mono ?_
    rintro e w3 ⟨rfl, hb3⟩
    go_wp2
    go_ret
    exact ⟨ret_bool (by simp), bthen HF0.out.1 hb3⟩

end Go.Proofs.Ytabnimgpednhjaa
