/- Clauses of gates: Of. -/
import Derived.Test.YtdlfjijfdibocaaCc
namespace Go.Proofs.Ytdlfjijfdibocaa
open Go.RowKit Go.Maps Go.WideMaps
set_option maxRecDepth 100000

theorem andsC_len (ins : Int) (ps : List (Int × Int)) (k : Nat) (h : k ≤ ps.length) : (andsC ins ps k).length = 3 * k := by
  induction k with
  | zero => rfl
  | succ k ih => rw [andsC_succ (by omega), List.length_append, ih (by omega)]; simp [andC]; omega
theorem rootC_len (x : Int) : (rootC x).length = if x = 1 then 0 else 1 := by
  unfold rootC
  split
  · rfl
  · split <;> rfl
/-- The clauses of the first roots. -/
def rootsC (rs : List Int) (k : Nat) : List (List Int) := (rs.take k).flatMap rootC
theorem rootsC_succ (rs : List Int) (k : Nat) (h : k < rs.length) : rootsC rs (k + 1) = rootsC rs k ++ rootC rs[k] := by
  unfold rootsC
  rw [List.take_succ_eq_append_getElem h, List.flatMap_append]
  simp
theorem rootsC_len (rs : List Int) (k : Nat) (h : k ≤ rs.length) : (rootsC rs k).length = cntR rs k := by
  induction k with
  | zero => simp [rootsC, cntR]
  | succ k ih =>
    rw [rootsC_succ rs k (by omega), List.length_append, ih (by omega), rootC_len]
    show _ = cntR rs k + (if rs.getD k 1 = 1 then 0 else 1)
    simp [List.getD, List.getElem?_eq_getElem (show k < rs.length by omega)]
theorem cntR_mono (rs : List Int) {k n : Nat} (h : k ≤ n) : cntR rs k ≤ cntR rs n := by
  induction n with
  | zero => obtain rfl : k = 0 := by omega
            exact Nat.le_refl _
  | succ n ih =>
    by_cases e : k = n + 1
    · subst e; exact Nat.le_refl _
    · have := ih (by omega)
      have h2 : cntR rs (n + 1) = cntR rs n + (if rs.getD n 1 = 1 then 0 else 1) := rfl
      rw [h2]
      omega
theorem cnfC_all (ins : Int) (ps : List (Int × Int)) (rs : List Int) : cnfC ins ps rs = andsC ins ps ps.length ++ rootsC rs rs.length := by
  unfold cnfC rootsC
  rw [List.take_length]

/-- What Of says. -/
def ofE (ins : Int) (ps : List (Int × Int)) (rs : List Int) : Int :=
  if chkE ins ps ≠ 0 then chkE ins ps else if rs.any (noLit (2 * (1 + ins + ps.length))) = true then 5 else fitE ins ps.length rs
def ofV (e x : Int) : Int := if e = 0 then x else 0
def ofL (e : Int) (L : List (List Int)) : List (List Int) := if e = 0 then L else []

/-- Clauses in memory. -/
structure ClAt (w : World) (p : Option Addr) (rs : List Row) : Prop where
  rows : RowsAt w p rs
  inn : InAt w rs
theorem ClAt.later {w w1 : World} {p : Option Addr} {rs : List Row} (h : ClAt w p rs) (hb : Below w.heap.size w w1) : ClAt w1 p rs := ⟨h.rows.later hb, h.inn.later hb⟩
theorem clAt_nil (w : World) : ClAt w none [] := ⟨fun h => by simp at h, fun r hr => by simp at hr⟩
abbrev cval (vars : Int) (p : Option Addr) (len cap : Nat) : Value := .agg #[.int .i64 vars, .slice p len cap]

/-- What Of leaves. -/
def OfOut (w' : World) (e : Ending) (ins : Int) (ps : List (Int × Int)) (rs : List Int) : Prop := ∃ pv cv rws,
  e = .returned (.tuple #[cval (ofV (ofE ins ps rs) (ins + ps.length)) pv rws.length cv, .int .i64 (ofE ins ps rs)]) ∧ numsOf rws = ofL (ofE ins ps rs) (cnfC ins ps rs) ∧ ClAt w' pv rws
theorem ofOut_no {w' : World} {ins : Int} {ps : List (Int × Int)} {rs : List Int} {e : Int} (he : ofE ins ps rs = e) (hne : e ≠ 0) : OfOut w' (.returned (.tuple #[cval 0 none 0 0, .int .i64 e])) ins ps rs := by
  subst he
  refine ⟨none, 0, [], ?_, ?_, clAt_nil _⟩
  · unfold ofV; rw [if_neg hne]; rfl
  · unfold ofL; rw [if_neg hne]; rfl
theorem ofOut_ok {w' : World} {ins : Int} {ps : List (Int × Int)} {rs : List Int} {pv : Option Addr} {cv : Nat} {rws : List Row} (he : ofE ins ps rs = 0) (hn : numsOf rws = cnfC ins ps rs) (h : ClAt w' pv rws) : OfOut w' (.returned (.tuple #[cval (ins + ps.length) pv rws.length cv, .int .i64 0])) ins ps rs := by
  unfold OfOut
  rw [he]
  exact ⟨pv, cv, rws, rfl, hn, h⟩
theorem fit_zero {ins : Int} {n : Nat} {rs : List Int} (h : fitE ins n rs = 0) : 3 * n + cntR rs rs.length ≤ 800000 ∧ ins + n ≤ 200000 := by
  unfold fitE at h
  split at h
  · cases h
  · split at h
    · cases h
    · omega

theorem clAt_set {w : World} {p : Option Addr} {rws : List Row} {B i : Nat} {u : Value} (h : ClAt w p rws) (h1 : ∀ a, p = some a → a.block ≠ B) (h2 : ∀ r ∈ rws, ∀ a, r.at' = some a → a.block ≠ B) : ClAt (w.setCell ⟨B, i, none⟩ u) p rws :=
  ⟨fun h0 => by
    obtain ⟨b, off, e, hc⟩ := h.rows h0
    exact ⟨b, off, e, fun j hj => cell_set_far (hc j hj) (h1 ⟨b, off, none⟩ e)⟩, fun r hr => (h.inn r hr).set _ _ (fun a ha => h2 r hr a ha)⟩

/-- The maker, at its beginning. -/
theorem cm_zero {w : World} {vars : Int} {M : Nat} (c0 : w.cell? ⟨M, 0, none⟩ = some (.int .i64 vars)) (c1 : w.cell? ⟨M, 1, none⟩ = some (.slice none 0 0)) (f0 : w.frozen? ⟨M, 0, none⟩ = false) (f1 : w.frozen? ⟨M, 1, none⟩ = false) : Cm w M M (.slice none 0 0) vars [] :=
  ⟨c0, c1, f0, f1, World.ownsRow_nil _ _ _ _, fun r hr => by simp at hr, Nat.le_refl _, by simp [Value.ownBlock], fun r hr => by simp at hr⟩

set_option maxRecDepth 100000 in
set_option maxHeartbeats 8000000 in
theorem of_any (ins : Int) (p : Option Addr) (cap : Nat) (ps : List (Int × Int)) (hwf : WfP ps) (hl : ps.length ≤ 8796093022208) (rs : List Int) (q : Option Addr) (qc : Nat) (hrl : rs.length ≤ 17592186044416) (w : World) (hP : PairsAt w p ps) (hI : IntsAt w q rs) :
    Calls Try.prog 9 #[gval ins p ps.length cap, .slice q rs.length qc] w fun e w' => OfOut w' e ins ps rs ∧ Below w.heap.size w w' := by
  have hB0 : Below w.heap.size w ((w.alloc (.cells #[.int .i64 ins, .slice p ps.length cap] 39)).alloc (.cells #[.int .i64 0, .slice none 0 0] 24)) := bal (bal (Below.refl _ _) _) _
  have HC := hide (check_any ins p cap ps hwf hl _ (hP.later hB0))
  have HP := hide hP
  have HI := hide hI
  clear hP hI hwf
  by_cases hc : chkE ins ps = 0
  · obtain ⟨h0, h1, hlen, hst, hd⟩ := chk_zero hc
    have HST := hide hst
    have HAE : Hid (ofE ins ps rs = if rs.any (noLit (2 * (1 + ins + ps.length))) = true then 5 else fitE ins ps.length rs) := by unfold ofE; rw [if_neg (by simpa using hc)]; rfl
    rw [hc] at HC
    clear hc hst hd
    go_enter Try.func9, Try.ntmps9
    go_wp2_with fail
    refine HC.out.mono ?_
    rintro e w1 ⟨rfl, hb1⟩
    have HB1 := hide (bthen hB0 hb1)
    have hsz1 := hb1.size
    simp at hsz1
    have q0 := cell_later hb1 (a := ⟨w.heap.size, 0, none⟩) (v := .int .i64 ins) (by simp [go_sem])
    have q1 := cell_later hb1 (a := ⟨w.heap.size, 1, none⟩) (v := .slice p ps.length cap) (by simp [go_sem])
    have z0 := cell_later hb1 (a := ⟨w.heap.size + 1, 0, none⟩) (v := .int .i64 0) (by simp [go_sem])
    have z1 := cell_later hb1 (a := ⟨w.heap.size + 1, 1, none⟩) (v := .slice none 0 0) (by simp [go_sem])
    have zf : ∀ i, w1.frozen? ⟨w.heap.size + 1, i, none⟩ = false := fun i => by rw [hb1.frozen (by simp)]; simp [go_sem]
    clear hb1 hB0 HC
    go_wp2_with fail
    refine (has_any ins p ps.length cap h0 h1 (by omega) rs q qc (by unfold maxLen; omega) _ (HI.out.later HB1.out)).mono ?_
    rintro e w2 ⟨rfl, hb2⟩
    have HB2 := hide (bthen HB1.out hb2)
    have hsz2 := hb2.size
    have q0' := cell_later hb2 q0
    have q1' := cell_later hb2 q1
    have z0' := cell_later hb2 z0
    have z1' := cell_later hb2 z1
    have zf' : ∀ i, w2.frozen? ⟨w.heap.size + 1, i, none⟩ = false := fun i => by rw [hb2.frozen (by simp; omega)]; exact zf i
    clear hb2 HB1 q0 q1 z0 z1 zf
    cases hn : rs.any (noLit (2 * (1 + ins + ps.length)))
    · rw [hn] at HAE
      have HL : Hid (∀ i (h : i < rs.length), 0 ≤ rs[i] ∧ rs[i] < 2 * (1 + ins + ps.length)) := fun i h => by
        rw [List.any_eq_false] at hn
        have := hn _ (List.getElem_mem h)
        simp [noLit] at this
        omega
      have HAF : Hid (ofE ins ps rs = fitE ins ps.length rs) := by rw [HAE.out, if_neg (by decide)]; rfl
      clear hn HAE
      go_wp2_with fail
      refine (fitC_any ins p ps.length cap h0 h1 (by omega) rs q qc hrl _ (HI.out.later HB2.out)).mono ?_
      rintro e w3 ⟨rfl, hb3⟩
      have HB3 := hide (bthen HB2.out hb3)
      have hsz3 := hb3.size
      have q0 := cell_later hb3 q0'
      have q1 := cell_later hb3 q1'
      have z0 := cell_later hb3 z0'
      have z1 := cell_later hb3 z1'
      have zf : ∀ i, w3.frozen? ⟨w.heap.size + 1, i, none⟩ = false := fun i => by rw [hb3.frozen (by simp; omega)]; exact zf' i
      clear hb3 HB2 q0' q1' z0' z1' zf'
      by_cases hf : fitE ins ps.length rs = 0
      · obtain ⟨hf1, hf2⟩ := fit_zero hf
        have HE : Hid (ofE ins ps rs = 0) := by rw [HAF.out, hf]; rfl
        rw [hf]
        clear hf HAF
        have HF1 := hide hf1
        clear hf1
        have a0 := past1 q0 (.cells #[.int .i64 0, .slice none 0 0] 55)
        have a1 := past1 q1 (.cells #[.int .i64 0, .slice none 0 0] 55)
        go_wp2_with fail
        clear a0 a1
        refine (variables_any ins p ps.length cap h0 h1 (by omega) _).mono ?_
        rintro e w4 ⟨rfl, hb4⟩
        have hbA := bthen (bal (Below.refl _ w3) (.cells #[.int .i64 0, .slice none 0 0] 55)) hb4
        have m0 := cell_later hb4 (a := ⟨w3.heap.size, 0, none⟩) (v := .int .i64 0) (by simp [go_sem])
        have m1 := cell_later hb4 (a := ⟨w3.heap.size, 1, none⟩) (v := .slice none 0 0) (by simp [go_sem])
        have mf : ∀ i, w4.frozen? ⟨w3.heap.size, i, none⟩ = false := fun i => by rw [hb4.frozen (by simp)]; simp [go_sem]
        have hsz4 := hb4.size
        simp at hsz4
        have HB4 := hide (bthen HB3.out hbA)
        have q0' := cell_later hbA q0
        have q1' := cell_later hbA q1
        have z0' := cell_later hbA z0
        have z1' := cell_later hbA z1
        have zf' : ∀ i, w4.frozen? ⟨w.heap.size + 1, i, none⟩ = false := fun i => by rw [hbA.frozen (by simp; omega)]; exact zf i
        generalize w3.heap.size = M at *
        have q0 := cell_set_far (p := ⟨M, 0, none⟩) (u := .int .i64 (ins + ps.length)) q0' (by simp; omega)
        have q1 := cell_set_far (p := ⟨M, 0, none⟩) (u := .int .i64 (ins + ps.length)) q1' (by simp; omega)
        have z0 := cell_set_far (p := ⟨M, 0, none⟩) (u := .int .i64 (ins + ps.length)) z0' (by simp; omega)
        have z1 := cell_set_far (p := ⟨M, 0, none⟩) (u := .int .i64 (ins + ps.length)) z1' (by simp; omega)
        have zf : ∀ i, (w4.setCell ⟨M, 0, none⟩ (.int .i64 (ins + ps.length))).frozen? ⟨w.heap.size + 1, i, none⟩ = false := fun i => by rw [World.frozen?_setCell]; exact zf' i
        have HCM := hide (cm_zero (w := w4.setCell ⟨M, 0, none⟩ (.int .i64 (ins + ps.length))) (vars := ins + ps.length) (M := M) (World.cell?_setCell_same w4 _ _ m0) (by rw [World.cell?_setCell_other w4 _ _ _ (by simp)]; exact m1) (by rw [World.frozen?_setCell]; exact mf 0) (by rw [World.frozen?_setCell]; exact mf 1))
        have HB5 := hide (HB4.out.setCell (p := ⟨M, 0, none⟩) (by simp; omega) (.int .i64 (ins + ps.length)))
        have hsz5 : M < (w4.setCell ⟨M, 0, none⟩ (.int .i64 (ins + ps.length))).heap.size := by simp; omega
        have mf0 := mf 0
        clear hb4 hbA q0' q1' z0' z1' zf' HB3 HB4 m1
        go_wp2
        generalize (w4.setCell ⟨M, 0, none⟩ (.int .i64 (ins + ps.length))) = w5 at *
        clear m0 mf mf0 hsz4
        go_loopw [38] (fun i wr => ∃ k : Nat, k ≤ ps.length ∧ i = .int .i64 k ∧ ∃ v rws, Hid (numsOf rws = andsC ins ps k) ∧ Hid (Cm wr M M v (ins + ps.length) rws) ∧ Hid (Below M w5 wr)) (fun i _ => ps.length - (intOf i).toNat)
        case atStart => exact ⟨0, Nat.zero_le _, rfl, _, [], rfl, HCM.out, Below.refl _ _⟩
        case round =>
          clear HCM
          obtain ⟨k, hk, rfl, v, rws, hnum, hcm, hbw⟩ := hrel
          have hszw := hbw.out.size
          have HBW := hide (HB5.out.trans (hbw.out.mono (by omega)))
          have y0 := hbw.out.cell (p := ⟨w.heap.size, 0, none⟩) (by simp; omega)
          have y1 := hbw.out.cell (p := ⟨w.heap.size, 1, none⟩) (by simp; omega)
          rw [q0] at y0
          rw [q1] at y1
          have hrl2 : rws.length = 3 * k := by rw [← numsOf_len, hnum.out, andsC_len ins ps k hk]
          by_cases hlt : k < ps.length
          · obtain ⟨b1, o1, rfl, hc1⟩ := (HP.out.later HBW.out) (by omega)
            obtain ⟨c0, c1⟩ := hc1 k hlt
            have hki : (k : Int) < (ps.length : Int) := by omega
            have hsd : standB ps[k].1 ps[k].2 (1 + ins + k) = true := by
              have := stN_down (k := k + 1) HST.out (by omega)
              rw [stN_succ hlt, Bool.and_eq_true] at this
              exact this.2
            have hbd := stand_bd hsd
            have HS := hide (andsC_succ (ins := ins) hlt)
            clear hc1 hsd
            generalize ps[k] = pr at *
            obtain ⟨x, y⟩ := pr
            simp only at *
            obtain ⟨x0, x1, y0', y1'⟩ := hbd
            have a0 := past1 y0 (.cells #[.int .i64 x, .int .i64 y] 36)
            go_wp2_with fail
            refine (andM_any M M v (ins + ps.length) rws (by omega) (1 + ins + k) x y (by omega) (by omega) x0 (by omega) y0' (by omega) _ (by simp; omega) (hcm.out.below (bal (Below.refl _ _) _))).mono ?_
            rintro e w6 ⟨rfl, v', rws', hnum', hcm', hb6⟩
            have HN6 : Hid (numsOf rws' = andsC ins ps (k + 1)) := by rw [hnum', hnum.out, HS.out]; rfl
            have HC6 := hide hcm'
            have HB6 := hide ((hbw.out.alloc (by omega) _).trans hb6)
            clear hnum' hcm' hb6 hnum hcm hbw
            go_wp2
            go_roundw
            case rel => exact ⟨k + 1, by omega, by go_num, v', rws', HN6, HC6, HB6⟩
            case measure => simp [intOf]; omega
          · obtain rfl : k = ps.length := by omega
            go_wp2
            go_loopw [53] (fun i wr2 => ∃ k : Nat, k ≤ rs.length ∧ i = .int .i64 k ∧ ∃ v rws, Hid (numsOf rws = andsC ins ps ps.length ++ rootsC rs k) ∧ Hid (Cm wr2 M M v (ins + ps.length) rws) ∧ Hid (Below M w5 wr2)) (fun i _ => rs.length - (intOf i).toNat)
            case atStart => exact ⟨0, Nat.zero_le _, rfl, v, rws, by rw [hnum.out]; simp [rootsC, Hid], hcm, hbw⟩
            case round =>
              clear hnum hcm hbw hrl2 y0 y1 hszw HBW v rws
              obtain ⟨j, hj, rfl, v, rws, hnum, hcm, hbw⟩ := hrel
              have hszw := hbw.out.size
              have HBW := hide (HB5.out.trans (hbw.out.mono (by omega)))
              have hrl2 : rws.length = 3 * ps.length + cntR rs j := by rw [← numsOf_len, hnum.out, List.length_append, andsC_len ins ps _ (Nat.le_refl _), rootsC_len rs j hj]
              have hcm2 := cntR_mono rs hj
              have hf1 := HF1.out
              by_cases hlt2 : j < rs.length
              · obtain ⟨b1, o1, rfl, hc1⟩ := (HI.out.later HBW.out) (by omega)
                have c0 := hc1 j hlt2
                have hki : (j : Int) < (rs.length : Int) := by omega
                obtain ⟨x0, x1⟩ := HL.out j hlt2
                have HS := hide (rootsC_succ rs j hlt2)
                clear hc1
                generalize rs[j] = x at *
                go_wp2_with fail
                refine (rootM_any M M v (ins + ps.length) rws (by omega) x x0 (by omega) _ (by omega) hcm.out).mono ?_
                rintro e w6 ⟨rfl, v', rws', hnum', hcm', hb6⟩
                have HN6 : Hid (numsOf rws' = andsC ins ps ps.length ++ rootsC rs (j + 1)) := by rw [hnum', hnum.out, HS.out, List.append_assoc]; rfl
                have HC6 := hide hcm'
                have HB6 := hide (hbw.out.trans hb6)
                clear hnum' hcm' hb6 hnum hcm hbw
                go_wp2
                go_roundw
                case rel => exact ⟨j + 1, by omega, by go_num, v', rws', HN6, HC6, HB6⟩
                case measure => simp [intOf]; omega
              · obtain rfl : j = rs.length := by omega
                have HNN : Hid (numsOf rws = cnfC ins ps rs) := by rw [hnum.out, cnfC_all]; rfl
                obtain ⟨pv, cv, rfl, hrw⟩ := owns_rows hcm.out.row
                have y0 := hbw.out.cell (p := ⟨w.heap.size + 1, 0, none⟩) (by simp; omega)
                have y1 := hbw.out.cell (p := ⟨w.heap.size + 1, 1, none⟩) (by simp; omega)
                rw [z0] at y0
                rw [z1] at y1
                have yf : ∀ i, wr.frozen? ⟨w.heap.size + 1, i, none⟩ = false := fun i => by rw [hbw.out.frozen (by simp; omega)]; exact zf i
                have m0 := hcm.out.c0
                have m1 := hcm.out.c1
                have hcl : ClAt wr pv rws := ⟨hrw, hcm.out.inn⟩
                have hp1 : ∀ a, pv = some a → a.block ≠ w.heap.size + 1 := fun a ha => by
                  have := (hcm.out.row.lt a.block (by rw [ha]; simp [Value.ownBlock])).1
                  omega
                have hp2 : ∀ r ∈ rws, ∀ a, r.at' = some a → a.block ≠ w.heap.size + 1 := fun r hr a ha => by
                  have := (hcm.out.far r hr a ha).2.2.2
                  omega
                have HCL := hide (clAt_set (i := 1) (u := .slice pv rws.length cv) (clAt_set (i := 0) (u := .int .i64 (ins + ps.length)) hcl hp1 hp2) hp1 hp2)
                clear hcl hp1 hp2 hnum hcm hbw hrw z0 z1 zf hrl2 hcm2 hf1
                go_wp2
                exact bodyPost_ret (v := .tuple #[cval (ins + ps.length) pv rws.length cv, .int .i64 0]) (by simp [results, Try.results9, go_sem, y0, y1]) rfl ⟨ofOut_ok HE.out HNN.out HCL.out, (HBW.out.setCell (by simp) _).setCell (by simp) _⟩
      · have hne : (fitE ins ps.length rs != 0) = true := by simpa using hf
        have HNZ := hide hf
        clear hf
        generalize fitE ins ps.length rs = R at *
        go_wp2
        exact bodyPost_ret (v := .tuple #[cval 0 none 0 0, .int .i64 R]) (by simp [results, Try.results9, go_sem, z0, z1]) rfl ⟨ofOut_no HAF.out HNZ.out, (HB3.out.setCell (by simp) _).setCell (by simp) _⟩
    · have HE : Hid (ofE ins ps rs = 5) := by rw [HAE.out, hn]; rfl
      clear HAE hn
      go_wp2
      exact bodyPost_ret (v := .tuple #[cval 0 none 0 0, .int .i64 5]) (by simp [results, Try.results9, go_sem, z0', z1']) rfl ⟨ofOut_no HE.out (by decide), (HB2.out.setCell (by simp) _).setCell (by simp) _⟩
  · have hne : (chkE ins ps != 0) = true := by simpa using hc
    have HE : Hid (ofE ins ps rs = chkE ins ps) := by unfold ofE; rw [if_pos hc]; rfl
    have HNZ := hide hc
    clear hc
    generalize chkE ins ps = R at *
    go_enter Try.func9, Try.ntmps9
    go_wp2_with fail
    refine HC.out.mono ?_
    rintro e w1 ⟨rfl, hb1⟩
    have HB1 := hide (bthen hB0 hb1)
    have z0 := cell_later hb1 (a := ⟨w.heap.size + 1, 0, none⟩) (v := .int .i64 0) (by simp [go_sem])
    have z1 := cell_later hb1 (a := ⟨w.heap.size + 1, 1, none⟩) (v := .slice none 0 0) (by simp [go_sem])
    have zf : ∀ i, w1.frozen? ⟨w.heap.size + 1, i, none⟩ = false := fun i => by rw [hb1.frozen (by simp)]; simp [go_sem]
    clear hb1 hB0 HC
    go_wp2
    exact bodyPost_ret (v := .tuple #[cval 0 none 0 0, .int .i64 R]) (by simp [results, Try.results9, go_sem, z0, z1]) rfl ⟨ofOut_no HE.out HNZ.out, (HB1.out.setCell (by simp) _).setCell (by simp) _⟩

end Go.Proofs.Ytdlfjijfdibocaa
