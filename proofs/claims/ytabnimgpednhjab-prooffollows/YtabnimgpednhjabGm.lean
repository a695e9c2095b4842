/- Gates: Eval. -/
import Derived.Test.YtabnimgpednhjabGl
namespace Go.Proofs.Ytabnimgpednhjab
open Go.RowKit Go.Maps Go.WideMaps
set_option maxRecDepth 100000

/-- A row of bools in memory. -/
def BRow (w : World) (g : Nat) (bs : List Bool) : Prop := ∀ (j : Nat) (h : j < bs.length), w.cell? ⟨g, j, none⟩ = some (.bool bs[j]) ∧ w.frozen? ⟨g, j, none⟩ = false
theorem BRow.later {w w1 : World} {g : Nat} {bs : List Bool} (h : BRow w g bs) (hb : Below w.heap.size w w1) : BRow w1 g bs := fun j hj =>
  ⟨cell_later hb (h j hj).1, by rw [hb.frozen (World.block_lt_of_cell? _ _ (h j hj).1)]; exact (h j hj).2⟩
theorem BRow.set {w : World} {g : Nat} {bs : List Bool} (h : BRow w g bs) (k : Nat) (b : Bool) : BRow (w.setCell ⟨g, k, none⟩ (.bool b)) g (bs.set k b) := by
  intro j hj
  rw [List.length_set] at hj
  refine ⟨?_, by rw [World.frozen?_setCell]; exact (h j hj).2⟩
  by_cases e : k = j
  · subst e
    rw [World.cell?_setCell_same w _ _ (h k hj).1]
    simp
  · rw [World.cell?_setCell_other w _ _ _ (by simp), (h j hj).1]
    rw [List.getElem_set_ne e]
theorem brow_bools {w : World} {g : Nat} {bs : List Bool} (h : BRow w g bs) : BoolsAt w (some ⟨g, 0, none⟩) bs := fun _ => ⟨g, 0, rfl, fun i hi => by rw [Nat.zero_add]; exact (h i hi).1⟩

theorem make_row (n : Nat) (hn : n ≤ 17592186044416) (w : World) : ∃ w', (Instr.makeSlice 35 (.int .i64 (n : Int)) (.int .i64 (n : Int))).run Try.prog w = .ok (.slice (some ⟨w.heap.size, 0, none⟩) n n) w' ∧ BRow w' w.heap.size (List.replicate n false) ∧ Below w.heap.size w w' ∧ w.heap.size < w'.heap.size := by
  obtain ⟨i0, hi, hz0, hz1, hz2⟩ := info_parts info4
  obtain ⟨w', h1, h2, h3⟩ := run_make_full (P := Try.prog) w w.heap.size 35 4 i0 (.bool false) 1 Try.underlying35 hi hz0 hz1 .i64 .i64 n (by rw [hz2]; omega) (by unfold maxLen; omega) (Nat.le_refl _)
  refine ⟨w', h1, fun j hj => ?_, ⟨h3.os, h3.tape, h3.output, h3.size, fun k hk => h3.block k hk (by simp)⟩, (h2.lt w.heap.size rfl).2⟩
  have hj' : j < n := by simpa using hj
  refine ⟨?_, h2.frozenAt j⟩
  rw [h2.cellAt j (by omega)]
  simp [toList_madeCells_one, hj', Value.cells]

/-- What Eval says. -/
def evE (ins : Int) (ps : List (Int × Int)) (bs : List Bool) (ls : List Int) : Int :=
  if chkE ins ps ≠ 0 then chkE ins ps else if ls.any (noLit (2 * (1 + ins + ps.length))) = true then 5 else if (bs.length : Int) ≠ ins then 1 else 0
def evL (ps : List (Int × Int)) (bs : List Bool) (ls : List Int) (e : Int) : List Bool := if e = 0 then ls.map (litV (nodesV bs ps ps.length)) else []

/-- Some of them done. -/
def curB (f : Int → Bool) (ls : List Int) (k : Nat) : List Bool := (ls.take k).map f ++ List.replicate (ls.length - k) false
theorem curB_zero (f : Int → Bool) (ls : List Int) : curB f ls 0 = List.replicate ls.length false := by simp [curB]
theorem curB_all (f : Int → Bool) (ls : List Int) : curB f ls ls.length = ls.map f := by simp [curB]
theorem curB_len (f : Int → Bool) (ls : List Int) (k : Nat) (h : k ≤ ls.length) : (curB f ls k).length = ls.length := by simp [curB]; omega
theorem curB_set (f : Int → Bool) (ls : List Int) (k : Nat) (h : k < ls.length) : (curB f ls k).set k (f ls[k]) = curB f ls (k + 1) := by
  unfold curB
  rw [List.take_succ_eq_append_getElem h, List.map_append, List.set_append_right _ _ (by simp; omega)]
  have e : ls.length - k = (ls.length - (k + 1)) + 1 := by omega
  have e2 : k - ((ls.take k).map f).length = 0 := by simp; omega
  rw [e, e2, List.replicate_succ, List.set_cons_zero]
  simp

set_option maxRecDepth 100000 in
set_option maxHeartbeats 4000000 in
theorem evalC_any (ins : Int) (p : Option Addr) (cap : Nat) (ps : List (Int × Int)) (hwf : WfP ps) (hl : ps.length ≤ 8796093022208) (q : Option Addr) (qc : Nat) (bs : List Bool) (hbl : bs.length ≤ maxLen) (hqn : q = none → qc = 0) (r : Option Addr) (rc : Nat) (ls : List Int) (hll : ls.length ≤ 17592186044416)
    (w : World) (hP : PairsAt w p ps) (hB : BoolsAt w q bs) (hI : IntsAt w r ls) :
    Calls Try.prog 16 #[gval ins p ps.length cap, .slice q bs.length qc, .slice r ls.length rc] w fun e w' => ∃ pv cv,
      e = .returned (.tuple #[.slice pv (evL ps bs ls (evE ins ps bs ls)).length cv, .int .i64 (evE ins ps bs ls)]) ∧ BoolsAt w' pv (evL ps bs ls (evE ins ps bs ls)) ∧ Below w.heap.size w w' ∧ (evL ps bs ls (evE ins ps bs ls)).length ≤ cv := by
  have hB0 : Below w.heap.size w (w.alloc (.cells #[.int .i64 ins, .slice p ps.length cap] 24)) := bal (Below.refl _ _) _
  have HC := hide (check_any ins p cap ps hwf hl _ (hP.later hB0))
  have HNO : Hid (∀ e : Int, e ≠ 0 → evL ps bs ls e = []) := fun e h => by unfold evL; rw [if_neg h]
  have HP := hide hP
  have HB := hide hB
  have HI := hide hI
  have HQ := hide hqn
  unfold maxLen at hbl
  clear hP hB hI hqn hwf
  by_cases hc : chkE ins ps = 0
  · obtain ⟨h0, h1, hlen, hst, hd⟩ := chk_zero hc
    have HST := hide hst
    have HAE : Hid (evE ins ps bs ls = if ls.any (noLit (2 * (1 + ins + ps.length))) = true then 5 else if (bs.length : Int) ≠ ins then 1 else 0) := by unfold evE; rw [if_neg (by simpa using hc)]; rfl
    rw [hc] at HC
    clear hc hst hd
    go_enter Try.func16, Try.ntmps16
    go_wp2_with fail
    refine HC.out.mono ?_
    rintro e w1 ⟨rfl, hb1⟩
    have HB1 := hide (bthen hB0 hb1)
    have q0 := cell_later hb1 (a := ⟨w.heap.size, 0, none⟩) (v := .int .i64 ins) (by simp [go_sem])
    have q1 := cell_later hb1 (a := ⟨w.heap.size, 1, none⟩) (v := .slice p ps.length cap) (by simp [go_sem])
    clear hb1 hB0 HC
    go_wp2_with fail
    refine (has_any ins p ps.length cap h0 h1 (by omega) ls r rc (by unfold maxLen; omega) _ (HI.out.later HB1.out)).mono ?_
    rintro e w2 ⟨rfl, hb2⟩
    have HB2 := hide (bthen HB1.out hb2)
    have q0' := cell_later hb2 q0
    have q1' := cell_later hb2 q1
    clear hb2 HB1 q0 q1
    cases hn : ls.any (noLit (2 * (1 + ins + ps.length)))
    · by_cases hbi : (bs.length : Int) = ins
      · have HE : Hid (evE ins ps bs ls = 0) := by rw [HAE.out, hn, if_neg (by decide), if_neg (by simpa using hbi)]; rfl
        have HL : Hid (∀ i (h : i < ls.length), 0 ≤ ls[i] ∧ ls[i] < 2 * (1 + ins + ps.length)) := fun i h => by
          rw [List.any_eq_false] at hn
          have := hn _ (List.getElem_mem h)
          simp [noLit] at this
          omega
        subst hbi
        have HEV : Hid (evL ps bs ls 0 = ls.map (litV (nodesV bs ps ps.length))) := rfl
        have hne : ((bs.length : Int) != (bs.length : Int)) = false := by simp
        clear HAE hn HNO
        go_wp2_with fail
        refine (values_any p cap ps (by omega) q qc bs (by omega) HQ.out HST.out _ (HP.out.later HB2.out) (HB.out.later HB2.out)).mono ?_
        rintro e w3 ⟨pv, cv, rfl, hbv, hb3⟩
        have HB3 := hide (bthen HB2.out hb3)
        have HVL := hide (nodesV_len bs ps ps.length)
        obtain ⟨vb, vo, rfl, hvc⟩ := hbv (by rw [HVL.out]; omega)
        have hvb : vb < w3.heap.size := World.block_lt_of_cell? _ _ (hvc 0 (by rw [HVL.out]; omega))
        have hbv2 : BoolsAt w3 (some ⟨vb, vo, none⟩) (nodesV bs ps ps.length) := fun _ => ⟨vb, vo, rfl, hvc⟩
        obtain ⟨w4, hmk, hrow, hb4, hlt4⟩ := make_row ls.length (by omega) w3
        have HVB := hide (hbv2.later hb4)
        have HB4 := hide (bthen HB3.out hb4)
        have HROW := hide hrow
        have hs3 := HB3.out.size
        generalize hvs : nodesV bs ps ps.length = vs at *
        generalize hG : w3.heap.size = G at *
        clear hvs hb3 hbv q0' q1' HB3 hrow hb4 HB2 hvc hbv2
        go_wp2
        go_loopw [35] (fun i wr => ∃ k : Nat, k ≤ ls.length ∧ i = .int .i64 k ∧ Hid (BRow wr G (curB (litV vs) ls k)) ∧ Below w.heap.size w wr ∧ BoolsAt wr (some ⟨vb, vo, none⟩) vs) (fun i _ => ls.length - (intOf i).toNat)
        case atStart => exact ⟨0, Nat.zero_le _, rfl, by rw [curB_zero]; exact HROW.out, HB4.out, HVB.out⟩
        case round =>
          obtain ⟨k, hk, rfl, hrow, hbw, hbv⟩ := hrel
          have hcl := curB_len (litV vs) ls k hk
          by_cases hlt : k < ls.length
          · obtain ⟨lb, lo, rfl, hlc⟩ := (HI.out.later hbw) (by omega)
            have c0 := hlc k hlt
            have hki : (k : Int) < (ls.length : Int) := by omega
            have hbd := HL.out k hlt
            obtain ⟨g0, g1⟩ := hrow.out k (by omega)
            have HS := hide (curB_set (litV vs) ls k hlt)
            have HRW := hide hrow.out
            have HBV := hide hbv
            have HBW := hide hbw
            clear hlc hrow hbv hbw
            generalize (curB (litV vs) ls k)[k] = old at *
            clear hcl
            generalize ls[k] = x at *
            have HT := hide (tells_any vs (some ⟨vb, vo, none⟩) cv x hbd.1 (by rw [HVL.out]; omega) (by rw [HVL.out]; omega) wr HBV.out)
            go_wp2_with fail
            refine HT.out.mono ?_
            rintro e w' ⟨rfl, n1, rfl⟩
            have hbn : Below wr.heap.size wr (wr.drewN n1) := bdn (Below.refl _ _) n1
            go_wp2
            go_roundw
            case rel =>
              refine ⟨k + 1, by omega, by go_num, ?_, Below.setCell (bdn HBW.out n1) (by simpa using hs3) _, ?_⟩
              · rw [← HS.out]; exact BRow.set (HRW.out.later hbn) k _
              · intro h
                obtain ⟨b, o, e, hc⟩ := (HBV.out.later hbn) h
                cases e
                exact ⟨vb, vo, rfl, fun i hi => cell_set_far (hc i hi) (by simp; omega)⟩
            case measure => simp [intOf]; omega
          · obtain rfl : k = ls.length := by omega
            have HRB := hide (brow_bools hrow.out)
            rw [curB_all] at HRB
            go_wp2
            go_ret2
            exact ⟨some ⟨G, 0, none⟩, ls.length, by rw [HE.out, HEV.out, List.length_map]; rfl, by rw [HE.out, HEV.out]; exact HRB.out, hbw, by rw [HE.out, HEV.out, List.length_map]; exact Nat.le_refl _⟩
      · have HE : Hid (evE ins ps bs ls = 1) := by rw [HAE.out, hn, if_neg (by decide), if_pos (by simpa using hbi)]; rfl
        have hne : ((bs.length : Int) != ins) = true := by simpa using hbi
        clear HAE hn hbi
        go_wp2
        go_ret2
        exact ⟨none, 0, by rw [HE.out, HNO.out 1 (by decide)]; rfl, by rw [HE.out, HNO.out 1 (by decide)]; exact fun h => by simp at h, HB2.out, by rw [HE.out, HNO.out 1 (by decide)]; exact Nat.le_refl _⟩
    · have HE : Hid (evE ins ps bs ls = 5) := by rw [HAE.out, hn]; rfl
      clear HAE hn
      go_wp2
      go_ret2
      exact ⟨none, 0, by rw [HE.out, HNO.out 5 (by decide)]; rfl, by rw [HE.out, HNO.out 5 (by decide)]; exact fun h => by simp at h, HB2.out, by rw [HE.out, HNO.out 5 (by decide)]; exact Nat.le_refl _⟩
  · have hne : (chkE ins ps != 0) = true := by simpa using hc
    have HE : Hid (evE ins ps bs ls = chkE ins ps) := by unfold evE; rw [if_pos hc]; rfl
    have HNE := hide (HNO.out _ hc)
    clear hc HNO
    generalize chkE ins ps = R at *
    go_enter Try.func16, Try.ntmps16
    go_wp2_with fail
    refine HC.out.mono ?_
    rintro e w1 ⟨rfl, hb1⟩
    have HB1 := hide (bthen hB0 hb1)
    clear hb1 hB0 HC
    go_wp2
    go_ret2
    exact ⟨none, 0, by rw [HE.out, HNE.out]; rfl, by rw [HE.out, HNE.out]; exact fun h => by simp at h, HB1.out, by rw [HE.out, HNE.out]; exact Nat.le_refl _⟩

theorem eval_any (ins : Int) (p : Option Addr) (cap : Nat) (ps : List (Int × Int)) (hwf : WfP ps) (hl : ps.length ≤ 8796093022208) (q : Option Addr) (qc : Nat) (bs : List Bool) (hbl : bs.length ≤ maxLen) (hqn : q = none → qc = 0) (r : Option Addr) (rc : Nat) (ls : List Int) (hll : ls.length ≤ 17592186044416)
    (w : World) (hP : PairsAt w p ps) (hB : BoolsAt w q bs) (hI : IntsAt w r ls) :
    Calls Try.prog 16 #[gval ins p ps.length cap, .slice q bs.length qc, .slice r ls.length rc] w fun e w' => ∃ pv cv,
      e = .returned (.tuple #[.slice pv (evL ps bs ls (evE ins ps bs ls)).length cv, .int .i64 (evE ins ps bs ls)]) ∧ BoolsAt w' pv (evL ps bs ls (evE ins ps bs ls)) ∧ Below w.heap.size w w' :=
  (evalC_any ins p cap ps hwf hl q qc bs hbl hqn r rc ls hll w hP hB hI).mono fun _ _ ⟨pv, cv, h1, h2, h3, _⟩ => ⟨pv, cv, h1, h2, h3⟩

end Go.Proofs.Ytabnimgpednhjab
