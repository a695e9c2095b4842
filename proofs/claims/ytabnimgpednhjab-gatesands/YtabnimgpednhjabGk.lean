/- Gates: the And of two literals of a graph. -/
import Derived.Test.YtabnimgpednhjabGj
namespace Go.Proofs.Ytabnimgpednhjab
open Go.RowKit Go.Maps Go.WideMaps
set_option maxRecDepth 100000

/-- What And says. -/
def andE (ins : Int) (ps : List (Int × Int)) (a b : Int) : Int :=
  if chkE ins ps ≠ 0 then chkE ins ps else if [a, b].any (noLit (2 * (1 + ins + ps.length))) = true then 5 else if andOk ps a b = false then 2 else 0
def outIns (ins e : Int) : Int := if e = 0 then ins else 0
def outLit (ins : Int) (ps : List (Int × Int)) (a b e : Int) : Int := if e = 0 then andLit ins ps a b else 0
def outPs (ps : List (Int × Int)) (a b e : Int) : List (Int × Int) := if e = 0 then andPs ps a b else []

theorem out_no {ins : Int} {ps : List (Int × Int)} {a b e : Int} (h : e ≠ 0) : outIns ins e = 0 ∧ outLit ins ps a b e = 0 ∧ outPs ps a b e = [] := by
  unfold outIns outLit outPs; rw [if_neg h, if_neg h, if_neg h]; exact ⟨rfl, rfl, rfl⟩
theorem out_ok {ins : Int} {ps : List (Int × Int)} {a b : Int} : outIns ins 0 = ins ∧ outLit ins ps a b 0 = andLit ins ps a b ∧ outPs ps a b 0 = andPs ps a b := by
  unfold outIns outLit outPs; rw [if_pos rfl, if_pos rfl, if_pos rfl]; exact ⟨rfl, rfl, rfl⟩

/-- What And leaves. -/
def AndOut (w' : World) (e : Ending) (ins : Int) (ps : List (Int × Int)) (a b : Int) : Prop := ∃ pv cv,
  e = .returned (.tuple #[gval (outIns ins (andE ins ps a b)) pv (outPs ps a b (andE ins ps a b)).length cv, .int .i64 (outLit ins ps a b (andE ins ps a b)), .int .i64 (andE ins ps a b)]) ∧
      PairsAt w' pv (outPs ps a b (andE ins ps a b))
theorem andOut_no {w' : World} {ins : Int} {ps : List (Int × Int)} {a b e : Int} (he : andE ins ps a b = e) (hne : e ≠ 0) : AndOut w' (.returned (.tuple #[gval 0 none 0 0, .int .i64 0, .int .i64 e])) ins ps a b := by
  subst he
  obtain ⟨h1, h2, h3⟩ := out_no (ins := ins) (ps := ps) (a := a) (b := b) hne
  refine ⟨none, 0, ?_, ?_⟩
  · rw [h1, h2, h3]; rfl
  · rw [h3]; exact fun h => by simp at h
theorem andOut_ok {w' : World} {ins : Int} {ps : List (Int × Int)} {a b : Int} {pv : Option Addr} {cv : Nat} (he : andE ins ps a b = 0) (hp : PairsAt w' pv (andPs ps a b)) : AndOut w' (.returned (.tuple #[gval ins pv (andPs ps a b).length cv, .int .i64 (andLit ins ps a b), .int .i64 0])) ins ps a b := by
  obtain ⟨h1, h2, h3⟩ := out_ok (ins := ins) (ps := ps) (a := a) (b := b)
  unfold AndOut
  rw [he, h1, h2, h3]
  exact ⟨pv, cv, rfl, hp⟩

theorem two_any (f : Int → Bool) (a b : Int) : [a, b].any f = (f a || f b) := by simp

theorem pairs_two {w : World} {a b : Int} : IntsAt (w.alloc (.cells #[.int .i64 a, .int .i64 b] 3)) (some ⟨w.heap.size, 0, none⟩) [a, b] := fun _ => ⟨w.heap.size, 0, rfl, fun i hi => by
  match i, hi with
  | 0, _ => simp [go_sem]
  | 1, _ => simp [go_sem]⟩

set_option maxRecDepth 100000 in
set_option maxHeartbeats 4000000 in
theorem and_any (ins : Int) (p : Option Addr) (cap : Nat) (ps : List (Int × Int)) (hwf : WfP ps) (hl : ps.length ≤ 8796093022208) (a b : Int) (w : World) (hP : PairsAt w p ps) :
    Calls Try.prog 9 #[gval ins p ps.length cap, .int .i64 a, .int .i64 b] w fun e w' => AndOut w' e ins ps a b ∧ Below w.heap.size w w' := by
  have hB0 : Below w.heap.size w ((w.alloc (.cells #[.int .i64 ins, .slice p ps.length cap] 24)).alloc (.cells #[.int .i64 0, .slice none 0 0] 24)) := bal (bal (Below.refl _ _) _) _
  have HC := hide (checked_any ins p cap ps hwf hl _ (hP.later hB0))
  clear hP hwf
  by_cases hc : chkE ins ps = 0
  · obtain ⟨h0, h1, hlen, hst, hd⟩ := chk_zero hc
    have HAE : Hid (andE ins ps a b = if [a, b].any (noLit (2 * (1 + ins + ps.length))) = true then 5 else if andOk ps a b = false then 2 else 0) := by unfold andE; rw [if_neg (by simpa using hc)]; rfl
    have HCK : Hid (∀ w1 v, Checked ((w.alloc (.cells #[.int .i64 ins, .slice p ps.length cap] 24)).alloc (.cells #[.int .i64 0, .slice none 0 0] 24)) w1 ins ps v → ∃ M B u D, v = .pointer (some ⟨M, 0, none⟩) ∧ Mk w1 (w.heap.size + 2) M B u ins ps ∧ w1.ownsMap Try.prog 69 (plainElem (H := Unit) Try.prog 3) B ps.length D ∧ MapIs ins ps ps.length D) := fun w1 v h => by
      unfold Checked at h; rw [if_pos hc] at h; simpa using h
    rw [hc] at HC
    have HD := hide hd
    clear hc hst hd
    go_enter Try.func9, Try.ntmps9
    go_wp2_with fail
    refine HC.out.mono ?_
    rintro e w1 ⟨v, rfl, hck, hb1⟩
    obtain ⟨M, B, u, D, rfl, hmk, hown, hmap⟩ := HCK.out _ _ hck
    have HB1 := hide (bthen hB0 hb1)
    have hsz := hb1.size
    simp at hsz
    have q0 := cell_later hb1 (a := ⟨w.heap.size, 0, none⟩) (v := .int .i64 ins) (by simp [go_sem])
    have q1 := cell_later hb1 (a := ⟨w.heap.size, 1, none⟩) (v := .slice p ps.length cap) (by simp [go_sem])
    have z0 := cell_later hb1 (a := ⟨w.heap.size + 1, 0, none⟩) (v := .int .i64 0) (by simp [go_sem])
    have z1 := cell_later hb1 (a := ⟨w.heap.size + 1, 1, none⟩) (v := .slice none 0 0) (by simp [go_sem])
    have zf : ∀ i, w1.frozen? ⟨w.heap.size + 1, i, none⟩ = false := fun i => by rw [hb1.frozen (by simp)]; simp [go_sem]
    have HM := hide hmk
    have HO := hide hown
    have HI := hide hmap
    clear hb1 hck hB0 HC hmk hown hmap HCK
    go_wp2_with fail
    have hb2 : Below w1.heap.size w1 (w1.alloc (.cells #[.int .i64 a, .int .i64 b] 3)) := bal (Below.refl _ _) _
    refine (has_any ins p ps.length cap h0 h1 (by omega) [a, b] _ 2 (by simp [maxLen]) _ pairs_two).mono ?_
    rintro e w2 ⟨rfl, hb3⟩
    have hb4 := bthen hb2 hb3
    have HM2 := hide (HM.out.below hb4)
    have HO2 := hide (map_below HO.out hb4)
    have HB2 := hide (bthen HB1.out hb4)
    have hsz2 := hb4.size
    have z0' := cell_later hb4 z0
    have z1' := cell_later hb4 z1
    have zf' : ∀ i, w2.frozen? ⟨w.heap.size + 1, i, none⟩ = false := fun i => by rw [hb4.frozen (by simp; omega)]; exact zf i
    clear hb2 hb3 hb4 z0 z1 zf HM HO HB1 q0 q1
    cases hn : [a, b].any (noLit (2 * (1 + ins + ps.length)))
    · have HN := hide hn
      rw [two_any, Bool.or_eq_false_iff] at hn
      simp [noLit] at hn
      obtain ⟨⟨ha0, ha1⟩, hb0, hb1⟩ := hn
      have HCA := hide (makerAnd_any ins ps hlen h0 h1 a b ha0 (by omega) hb0 (by omega) HD.out w2 (w.heap.size + 2) M B u D (by omega) HM2.out HO2.out HI.out)
      cases ho : andOk ps a b
      · have HE : Hid (andE ins ps a b = 2) := by rw [HAE.out, HN.out, ho]; rfl
        rw [ho] at HCA
        clear HAE HN ho
        go_wp2_with fail
        refine HCA.out.mono ?_
        rintro e w3 ⟨v', rfl, hmk3, hb3⟩
        have y0 := hb3.cell (p := ⟨w.heap.size + 1, 0, none⟩) (by simp)
        have y1 := hb3.cell (p := ⟨w.heap.size + 1, 1, none⟩) (by simp)
        rw [z0'] at y0
        rw [z1'] at y1
        have yf : ∀ i, w3.frozen? ⟨w.heap.size + 1, i, none⟩ = false := fun i => by rw [hb3.frozen (by simp)]; exact zf' i
        have HB3 := hide (HB2.out.trans (hb3.mono (by omega)))
        clear hmk3 hb3 HCA z0' z1' zf'
        go_wp2
        exact bodyPost_ret (v := .tuple #[gval 0 none 0 0, .int .i64 0, .int .i64 2]) (by simp [results, Try.results9, go_sem, y0, y1]) rfl ⟨andOut_no HE.out (by decide), (HB3.out.setCell (by simp) _).setCell (by simp) _⟩
      · have HE : Hid (andE ins ps a b = 0) := by rw [HAE.out, HN.out, ho]; rfl
        rw [ho] at HCA
        clear HAE HN ho
        go_wp2_with fail
        refine HCA.out.mono ?_
        rintro e w3 ⟨v', rfl, hmk3, hb3⟩
        obtain ⟨pv, cv, rfl, hpv⟩ := owns_pairs hmk3.row
        have y0 := hb3.cell (p := ⟨w.heap.size + 1, 0, none⟩) (by simp)
        have y1 := hb3.cell (p := ⟨w.heap.size + 1, 1, none⟩) (by simp)
        rw [z0'] at y0
        rw [z1'] at y1
        have yf : ∀ i, w3.frozen? ⟨w.heap.size + 1, i, none⟩ = false := fun i => by rw [hb3.frozen (by simp)]; exact zf' i
        have HB3 := hide (HB2.out.trans (hb3.mono (by omega)))
        have m0 := hmk3.c0
        have m1 := hmk3.c1
        have HPV : Hid (PairsAt ((w3.setCell ⟨w.heap.size + 1, 0, none⟩ (.int .i64 ins)).setCell ⟨w.heap.size + 1, 1, none⟩ (.slice pv (andPs ps a b).length cv)) pv (andPs ps a b)) := by
          intro h
          obtain ⟨bb, oo, hbo, hcc⟩ := hpv h
          have hbb : w.heap.size + 2 ≤ bb := by have := (hmk3.row.lt bb (by rw [hbo]; rfl)).1; omega
          exact ⟨bb, oo, hbo, fun i hi => ⟨cell_set_far (cell_set_far (hcc i hi).1 (by simp; omega)) (by simp; omega), cell_set_far (cell_set_far (hcc i hi).2 (by simp; omega)) (by simp; omega)⟩⟩
        clear hmk3 hb3 HCA z0' z1' zf' hpv
        go_wp2
        exact bodyPost_ret (v := .tuple #[gval ins pv (andPs ps a b).length cv, .int .i64 (andLit ins ps a b), .int .i64 0]) (by simp [results, Try.results9, go_sem, y0, y1]) rfl ⟨andOut_ok HE.out HPV.out, (HB3.out.setCell (by simp) _).setCell (by simp) _⟩
    · have HE : Hid (andE ins ps a b = 5) := by rw [HAE.out, hn]; rfl
      clear HAE hn
      go_wp2
      exact bodyPost_ret (v := .tuple #[gval 0 none 0 0, .int .i64 0, .int .i64 5]) (by simp [results, Try.results9, go_sem, z0', z1']) rfl ⟨andOut_no HE.out (by decide), (HB2.out.setCell (by simp) _).setCell (by simp) _⟩
  · have hne : (chkE ins ps != 0) = true := by simpa using hc
    have HE : Hid (andE ins ps a b = chkE ins ps) := by unfold andE; rw [if_pos hc]; rfl
    have HCK : Hid (∀ w1 v, Checked ((w.alloc (.cells #[.int .i64 ins, .slice p ps.length cap] 24)).alloc (.cells #[.int .i64 0, .slice none 0 0] 24)) w1 ins ps v → v = .pointer none) := fun w1 v h => by unfold Checked at h; rw [if_neg hc] at h; exact h
    have HNZ := hide hc
    clear hc
    generalize chkE ins ps = R at *
    go_enter Try.func9, Try.ntmps9
    go_wp2_with fail
    refine HC.out.mono ?_
    rintro e w1 ⟨v, rfl, hck, hb1⟩
    obtain rfl := HCK.out _ _ hck
    have HB1 := hide (bthen hB0 hb1)
    have z0 := cell_later hb1 (a := ⟨w.heap.size + 1, 0, none⟩) (v := .int .i64 0) (by simp [go_sem])
    have z1 := cell_later hb1 (a := ⟨w.heap.size + 1, 1, none⟩) (v := .slice none 0 0) (by simp [go_sem])
    have zf : ∀ i, w1.frozen? ⟨w.heap.size + 1, i, none⟩ = false := fun i => by rw [hb1.frozen (by simp)]; simp [go_sem]
    clear hb1 hck hB0 HC
    go_wp2
    exact bodyPost_ret (v := .tuple #[gval 0 none 0 0, .int .i64 0, .int .i64 R]) (by simp [results, Try.results9, go_sem, z0, z1]) rfl ⟨andOut_no HE.out HNZ.out, (HB1.out.setCell (by simp) _).setCell (by simp) _⟩

end Go.Proofs.Ytabnimgpednhjab
