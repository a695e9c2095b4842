/- The plain texts of steps: the clauses of all ands. -/
import Derived.Test.YtjhkecnnhddhbaaGreatDoorTd
namespace Go.Proofs.YtjhkecnnhddhbaaGreatDoor
open Go.RowKit Go.Maps Go.WideMaps
set_option maxRecDepth 100000
set_option autoImplicit false

theorem numP_bd (x off : Int) (h : 0 ≤ x) (h2 : x ≤ 10000000) (h3 : 0 ≤ off) (h4 : off ≤ 10000000) : -20000000 ≤ numP x off ∧ numP x off ≤ 20000000 := by
  unfold numP
  split <;> omega
theorem andP_succ (ins off : Int) (ps : List (Int × Int)) (k : Nat) (h : k < ps.length) : andP ins off ps (k + 1) = andP ins off ps k ++ andOne (1 + ins + k + off) (numP ps[k].1 off) (numP ps[k].2 off) := by
  rw [andP, List.getElem?_eq_getElem h]
theorem andP_len (ins off : Int) (ps : List (Int × Int)) (k : Nat) (h : k ≤ ps.length) : (andP ins off ps k).length = 3 * k := by
  induction k with
  | zero => rfl
  | succ k ih => rw [andP_succ _ _ _ _ (by omega), List.length_append, ih (by omega)]; simp [andOne]; omega

set_option maxHeartbeats 8000000 in
theorem andsP_any (ins : Int) (p : Option Addr) (ps : List (Int × Int)) (cap : Nat) (off : Int) (hi0 : 0 ≤ ins) (hi1 : ins ≤ 1000) (hpl : ps.length ≤ 1000001)
    (hbd : ∀ k (h : k < ps.length), (0 ≤ ps[k].1 ∧ ps[k].1 ≤ 10000000) ∧ 0 ≤ ps[k].2 ∧ ps[k].2 ≤ 10000000) (h3 : 0 ≤ off) (h4 : off ≤ 10000000) (w : World) (hP : PairsAt w p ps) :
    Calls Tryz.prog 25 #[.agg #[.int .i64 ins, .slice p ps.length cap], .int .i64 off] w (NewRows w (andP ins off ps ps.length)) := by
  obtain ⟨i0, hi, hz0, hz1, hz2⟩ := info_parts infoR
  have HIN := hide (And.intro hi (And.intro hz0 (And.intro hz1 hz2)))
  clear hi hz0 hz1 hz2
  have HBD := hide hbd
  have hb1 : Below w.heap.size w (w.alloc (.cells #[.int .i64 ins, .slice p ps.length cap] 24)) := bal (Below.refl _ _) _
  have HP := hide (hP.later hb1)
  have HB1 := hide hb1
  have b0 : (w.alloc (.cells #[.int .i64 ins, .slice p ps.length cap] 24)).cell? ⟨w.heap.size, 0, none⟩ = some (.int .i64 ins) := by simp [go_sem]
  have b1 : (w.alloc (.cells #[.int .i64 ins, .slice p ps.length cap] 24)).cell? ⟨w.heap.size, 1, none⟩ = some (.slice p ps.length cap) := by simp [go_sem]
  have HS1 : Hid (w.heap.size ≤ (w.alloc (.cells #[.int .i64 ins, .slice p ps.length cap] 24)).heap.size) := hb1.size
  have HSU : Hid (∀ k (h : k < ps.length), andP ins off ps (k + 1) = andP ins off ps k ++ andOne (1 + ins + k + off) (numP ps[k].1 off) (numP ps[k].2 off)) := fun k h => andP_succ ins off ps k h
  have HLN : Hid (∀ k, k ≤ ps.length → (andP ins off ps k).length = 3 * k) := fun k h => andP_len ins off ps k h
  have HNP : Hid (∀ x, 0 ≤ x ∧ x ≤ 10000000 → ∀ w, Calls Tryz.prog 26 #[.int .i64 x, .int .i64 off] w fun e w' => e = .returned (.int .i64 (numP x off)) ∧ w' = w) := fun x h w => numP_any x off h.1 h.2 h3 h4 w
  clear hbd hP hb1
  go_enter Tryz.func25, Tryz.ntmps25
  go_wp2
  generalize w.alloc (.cells #[.int .i64 ins, .slice p ps.length cap] 24) = w1 at *
  go_loopw [5, 6] (fun o i wr => ∃ k : Nat, k ≤ ps.length ∧ i = .int .i64 k ∧ Hid (∃ rs, rs.map Row.ns = andP ins off ps k ∧ Gr wr w1.heap.size o rs ∧ Below w1.heap.size w1 wr)) (fun _ i _ => ps.length - (intOf i).toNat)
  case atStart => exact ⟨0, Nat.zero_le _, rfl, [], rfl, gr_nil _ _, Below.refl _ _⟩
  case round =>
    obtain ⟨k, hk, rfl, HR⟩ := hrel
    obtain ⟨rs, hn, hgr, hbl⟩ := HR.out
    have d0 := cell_later hbl b0
    have d1 := cell_later hbl b1
    by_cases hlt : k < ps.length
    · have hki : (k : Int) < (ps.length : Int) := by omega
      obtain ⟨gb, goff, hge, hgc⟩ := (HP.out.later hbl) (by omega)
      obtain ⟨gk0, gk1⟩ := hgc k hlt
      subst hge
      have hSK := HSU.out k hlt
      have hB := HBD.out k hlt
      have hln : rs.length ≤ 3000003 := by
        have : rs.length = 3 * k := by rw [← HLN.out k hk, ← hn, List.length_map]
        omega
      have hna := numP_bd ps[k].1 off hB.1.1 hB.1.2 h3 h4
      have hnb := numP_bd ps[k].2 off hB.2.1 hB.2.2 h3 h4
      have HNQ := hide (show ∀ x, (x = ps[k].1 ∨ x = ps[k].2) → ∀ w, Calls Tryz.prog 26 #[.int .i64 x, .int .i64 off] w fun e w' => e = .returned (.int .i64 (numP x off)) ∧ w' = w from fun x hx w => HNP.out x (by rcases hx with rfl | rfl; exact hB.1; exact hB.2) w)
      have HSK := hide hSK
      have HN := hide hn
      have HGR := hide hgr
      have HBL := hide hbl
      generalize ps[k].1 = a at *
      generalize ps[k].2 = b at *
      have q1 := wrap_id (x := 1 + ins) (by omega) (by omega)
      have q2 := wrap_id (x := 1 + ins + (k : Int)) (by omega) (by omega)
      have q3 := wrap_id (x := 1 + ins + (k : Int) + off) (by omega) (by omega)
      have q4 := wrap_id (x := -(1 + ins + (k : Int) + off)) (by omega) (by omega)
      have q5 := wrap_id (x := -numP a off) (by omega) (by omega)
      have q6 := wrap_id (x := -numP b off) (by omega) (by omega)
      clear hSK hB hn hgr hbl HR hgc
      go_wp2
      go_quiet ((go_at_call 26; refine Calls.quiet_of_same (HNQ.out _ (by first | exact Or.inl rfl | exact Or.inr rfl) _)))
      generalize numP a off = ya at *
      generalize numP b off = yb at *
      have hbq : Below wr.heap.size wr (wr.drewN nq) := bdn (Below.refl _ _) nq
      have HGQ : Hid (Gr (wr.drewN nq) w1.heap.size u5 rs) := ⟨HGR.out.row, HGR.out.inn.later hbq, HGR.out.far⟩
      have HBQ : Hid (Below w1.heap.size w1 (wr.drewN nq)) := bthen HBL.out hbq
      have hsq : w1.heap.size ≤ (wr.drewN nq).heap.size := HBQ.out.size
      clear hbq HGR HBL d0 d1 gk0 gk1 HNQ
      generalize wr.drewN nq = wq at *
      have HG3 := hide (HGQ.out.lay3 (1 + ins + (k : Int) + off) ya yb)
      generalize hnn : 1 + ins + (k : Int) + off = n at *
      go_wp2_with (at_builtin; refine wpList_append_lies _ rfl _ _ 28 rfl w1.heap.size 25 i0 (.slice none 0 0) 1 24 Tryz.underlying28 HIN.out.1 HIN.out.2.1 HIN.out.2.2.1 HIN.out.2.2.2 rfl (by decide) u5 rs.length (rs.map Row.v) rfl HG3.out.row ⟨wq.heap.size + 1 + 1 + 1, 0, none⟩ 3 3 ((rows3 wq.heap.size n ya yb).map Row.v) rfl rfl ?e0 ?e1 (by omega) ?e2 ?e3 ?e4 (wq.heap.size + 4) ?e5 ?_)
      case e0 => exact lay3_news wq n ya yb
      case e1 => exact rows3_cell _ n ya yb
      case e2 => unfold maxLen; omega
      case e3 => omega
      case e4 => simp; omega
      case e5 => simp
      intro g cap2 w5 hown hg hat hlt5
      have HR5 : Hid (∃ rs', rs'.map Row.ns = andP ins off ps (k + 1) ∧ Gr w5 w1.heap.size (.slice (some ⟨g, 0, none⟩) (rs.length + 3) cap2) rs' ∧ Below w1.heap.size w1 w5) :=
        ⟨rs ++ rows3 wq.heap.size n ya yb, by rw [List.map_append, HN.out, HSK.out, rows3_ns], gr_three hsq HGQ.out n ya yb hg hown hat, gr_three_below HGQ.out n ya yb hg HBQ.out hsq⟩
      clear hown hg hat hlt5 HG3 HGQ HBQ HN HSK
      go_wp2
      go_roundw
      case rel => exact ⟨k + 1, by omega, by go_num, HR5⟩
      case measure => simp [intOf]; omega
    · obtain rfl : k = ps.length := by omega
      have HGN : Hid (NewRows w (andP ins off ps ps.length) (.returned u5) wr) := by
        have := gr_new (w := w) hgr (HB1.out.trans (hbl.mono HS1.out)) HS1.out
        rw [hn] at this
        exact this
      clear HR hn hgr hbl
      go_wp2
      go_ret
      exact HGN.out
end Go.Proofs.YtjhkecnnhddhbaaGreatDoor
