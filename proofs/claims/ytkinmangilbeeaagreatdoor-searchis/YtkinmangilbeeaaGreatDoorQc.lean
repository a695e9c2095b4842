/- The plain text of what follows: its walk. -/
import Derived.Test.YtkinmangilbeeaaGreatDoorQaM
import Derived.Test.YtkinmangilbeeaaGreatDoorQbM
namespace Go.Proofs.YtkinmangilbeeaaGreatDoor.Pf
open Go.RowKit Go.Maps Go.WideMaps
set_option maxRecDepth 100000

theorem owns_intsR {w : World} {base : Nat} {v : Value} {l : List Int} (h : w.ownsRow base 3 1 v l.length (l.map (Value.int .i64))) : ∃ p cap, v = .slice p l.length cap ∧ IntsAt w p l := by
  obtain ⟨p, c, rfl, h1, _⟩ := owns_ints h
  exact ⟨p, c, rfl, h1⟩
theorem negs_map (c : List Int) (n : Int) : negs c n ↔ n ∈ c.map (fun x => -x) := by
  simp [negs]
  exact ⟨fun ⟨m, h, e⟩ => ⟨m, h, e.symm⟩, fun ⟨m, h, e⟩ => ⟨m, h, e.symm⟩⟩
theorem one_newsI (x : Int) (w : World) : ∀ j u, ([.int .i64 x] : List Value)[j]? = some u → (w.alloc (.cells #[.int .i64 x] 3)).cell? ((⟨w.heap.size, 0, none⟩ : Addr).add j) = some u := fun j u hj => by
  match j, hj with
  | 0, hj => simp at hj; subst hj; simp [go_sem, Addr.add]
theorem one_cellI (x : Int) : ∀ u ∈ ([.int .i64 x] : List Value), u.oneCell' = true := fun u hu => by
  simp at hu; subst hu; rfl

theorem wrap_in9 (n : Int) (h1 : -1000000000 ≤ n) (h2 : n ≤ 1000000000) : wrap64 n = n := by unfold wrap64; omega
/-- It answers yes just if it comes to a clause of which all are not so. -/
def FoOut (L : List (List Int)) (A : Int → Prop) (w : World) (e : Ending) (w' : World) : Prop := ∃ b, e = .returned (.bool b) ∧ (b = true ↔ Confl L A) ∧ Below w.heap.size w w'

set_option maxHeartbeats 2000000 in
theorem followsOf_any (V : Int) (hV : 0 ≤ V ∧ V ≤ 200000) (w : World) (p q : Option Addr) (cp cq : Nat) (rs : List Row) (c : List Int) (hc : c.length ≤ 200) (hr : rs.length ≤ 800000) (hx : ∀ r ∈ rs, r.ns.length ≤ 200 ∧ ∀ x ∈ r.ns, Num V x) (hcx : ∀ x ∈ c, Num V x) (hR : RowsAt w p rs) (hIn : InAt w rs) (hI : IntsAt w q c) :
    Calls Tryz.prog 28 #[.slice p rs.length cp, .slice q c.length cq] w (FoOut (rs.map (·.ns)) (negs c) w) := by
  obtain ⟨i0, hi, hz0, hz1, hz2⟩ := info_parts info3
  have HIN := hide (And.intro hi (And.intro hz0 (And.intro hz1 hz2)))
  have HI := hide hI
  have HR := hide hR
  have HRI := hide hIn
  have HX := hide hx
  have HCX := hide hcx
  clear hi hz0 hz1 hz2 hI hR hIn hx hcx
  go_enter Tryz.func28, Tryz.ntmps28
  go_wp2_with fail
  go_loopw [5, 6] (fun v i wr => ∃ k : Nat, k ≤ c.length ∧ i = .int .i64 k ∧ Hid (wr.ownsRow w.heap.size 3 1 v ((c.take k).map (fun x => -x)).length (((c.take k).map (fun x => -x)).map (Value.int .i64)) ∧ Below w.heap.size w wr ∧ ∀ n ∈ (c.take k).map (fun x => -x), -n ∉ (c.take k).map (fun x => -x))) (fun _ i _ => c.length - (intOf i).toNat)
  case atStart => exact ⟨0, Nat.zero_le _, rfl, World.ownsRow_nil _ _ _ _, Below.refl _ _, by simp⟩
  case round =>
    obtain ⟨k, hk, rfl, HJ⟩ := hrel
    by_cases hlt : k < c.length
    · obtain ⟨b, off, rfl, hcc⟩ := (HI.out.later HJ.out.2.1) (by omega)
      have d0 := hcc k hlt
      have hkl : (k : Int) < (c.length : Int) := by omega
      have hnum := HCX.out _ (List.getElem_mem hlt)
      have hn1 := hnum.2.1
      have hn2 := hnum.2.2
      have hwn : wrap64 (-c[k]) = -c[k] := by
        have : ∀ y : Int, -1000000000 ≤ y → y ≤ 1000000000 → wrap64 y = y := fun y h1 h2 => by unfold wrap64; omega
        exact this _ (by omega) (by omega)
      obtain ⟨ps, cs, rfl, hso⟩ := owns_intsR HJ.out.1
      have hlen : ((c.take k).map (fun x => -x)).length = k := by simp; omega
      have HTK : Hid ((c.take (k + 1)).map (fun x => -x) = (c.take k).map (fun x => -x) ++ [-c[k]]) := by
        unfold Hid; rw [List.take_succ_eq_append_getElem hlt, List.map_append]; rfl
      have HHA := hide (hasR_any ((c.take k).map (fun x => -x)) (by omega) ps cs c[k] wr hso)
      have HCO : Hid (c[k] ∈ (c.take k).map (fun x => -x) → Confl (rs.map (·.ns)) (negs c)) := fun hm => by
        refine .inl ⟨c[k], ?_, ⟨c[k], List.getElem_mem hlt, rfl⟩⟩
        rw [negs_map]
        exact List.map_subset _ (List.take_subset _ _) hm
      have HCN : Hid (c[k] ∉ (c.take k).map (fun x => -x) → ∀ n ∈ (c.take k).map (fun x => -x) ++ [-c[k]], -n ∉ (c.take k).map (fun x => -x) ++ [-c[k]]) := fun hm n hn h3 => by
        rcases List.mem_append.1 hn with hn | hn
        · rcases List.mem_append.1 h3 with h3 | h3
          · exact HJ.out.2.2 n hn h3
          · have : -n = -c[k] := by simpa using h3
            exact hm (by rw [← show n = c[k] by omega]; exact hn)
        · have e : n = -c[k] := by simpa using hn
          rcases List.mem_append.1 h3 with h3 | h3
          · rw [e, Int.neg_neg] at h3; exact hm h3
          · have : -n = -c[k] := by simpa using h3
            have := hnum.1
            omega
      have HRW := hide HJ.out.1
      have HBW := hide HJ.out.2.1
      have hsz := HJ.out.2.1.size
      have HLE := hide hlen
      have hle2 : ((c.take k).map (fun x => -x)).length ≤ 200 := by omega
      clear HJ hcc hso hnum hlen
      generalize hS : (c.take k).map (fun x => -x) = so at *
      generalize c[k] = x at *
      clear hS
      by_cases hin : x ∈ so
      · have hd : decide (x ∈ so) = true := by simpa using hin
        rw [hd] at HHA
        have HCO2 := hide (HCO.out hin)
        clear HCO HCN hd hin
        go_wp2_with (go_at_call 45; with_reducible refine HHA.out.mono ?_; rintro e w' ⟨rfl, rfl⟩)
        go_ret
        exact ⟨true, rfl, ⟨fun _ => HCO2.out, fun _ => rfl⟩, HBW.out⟩
      · have hd : decide (x ∈ so) = false := by simpa using hin
        rw [hd] at HHA
        have HCN2 := hide (HCN.out hin)
        clear HCO HCN hd hin
        go_wp2_with (first | (go_at_call 45; refine HHA.out.mono ?_; rintro e w' ⟨rfl, hw'⟩; obtain rfl : wr = w' := hw'.symm) | (at_builtin; refine wpList_append_own _ rfl _ _ 38 rfl w.heap.size 3 i0 (.int .i64 0) 1 8 Tryz.underlying38 HIN.out.1 HIN.out.2.1 HIN.out.2.2.1 HIN.out.2.2.2 rfl (by decide) _ so.length _ rfl (HRW.out.alloc _) ⟨wr.heap.size, 0, none⟩ 1 1 [.int .i64 (-x)] rfl rfl (one_newsI (-x) wr) (one_cellI (-x)) (by unfold maxLen; omega) (by omega) (by simp; omega) ?_; intro v2 w2 hown2 hg2 _))
        have HR2 : Hid (w2.ownsRow w.heap.size 3 1 v2 (so ++ [-x]).length ((so ++ [-x]).map (Value.int .i64))) := by
          unfold Hid; simpa using hown2
        have HB2 : Hid (Below w.heap.size w w2) := (bal HBW.out _).grown hg2 (by simp; omega) (fun j hj => (HRW.out.lt j hj).1)
        refine ⟨⟨k + 1, by omega, by go_num, ?_⟩, by simp [intOf]; omega⟩
        rw [HTK.out]
        exact ⟨HR2.out, HB2.out, HCN2.out⟩
    · obtain rfl : k = c.length := by omega
      rw [List.take_length] at HJ
      have hkl : ¬ ((c.length : Nat) : Int) < (c.length : Int) := by omega
      have HS0 : Hid (SoF V (rs.map (·.ns)) (negs c) (c.map (fun x => -x)) (c.map (fun x => -x))) := by
        refine ⟨fun n hn => .base ((negs_map c n).2 hn), fun n hn => (negs_map c n).1 hn, HJ.out.2.2, fun n hn => ?_, [], by simp, by simp⟩
        obtain ⟨m, hm, rfl⟩ := List.mem_map.1 hn
        exact (HCX.out m hm).neg
      have HR0 := hide HJ.out.1
      have HB0 := hide HJ.out.2.1
      clear HJ hlt hk
      have HLC : Hid ((c.map (fun x => -x)).length ≤ 200) := by unfold Hid; simpa using hc
      generalize c.map (fun x => -x) = cn at *
      go_wp2_with fail
      clear hkl
      go_loopw [5, 7] (fun v t wr => ∃ (so : List Int) (ch : Bool), t = .bool ch ∧ Hid (wr.ownsRow w.heap.size 3 1 v so.length (so.map (Value.int .i64)) ∧ Below w.heap.size w wr ∧ SoF V (rs.map (·.ns)) (negs c) cn so ∧ (ch = false → ∀ d ∈ rs.map (·.ns), SatC so d))) (fun v t _ => match v, t with | .slice _ n _, .bool true => 1 + (600000 - n) | _, _ => 0)
      case atStart => exact ⟨cn, true, rfl, HR0.out, HB0.out, HS0.out, fun e => by cases e⟩
      case round =>
        clear HR0 HB0 HS0
        obtain ⟨so0, ch0, rfl, HJ⟩ := hrel
        cases ch0
        · go_wp2_with fail
          go_ret
          exact ⟨false, rfl, ⟨(fun e => by cases e), fun e => absurd e (HJ.out.2.2.1.done (HJ.out.2.2.2 (by first | exact rfl | trivial)))⟩, HJ.out.2.1⟩
        · obtain ⟨ps, cs, rfl, hso0⟩ := owns_intsR HJ.out.1
          clear hso0
          have HJ0 := hide (And.intro HJ.out.1 (And.intro HJ.out.2.1 HJ.out.2.2.1))
          clear HJ
          go_wp2_with fail
          go_loopw [5, 7, 8] (fun v t i wr => ∃ (k : Nat) (so : List Int) (ch : Bool), k ≤ rs.length ∧ i = .int .i64 k ∧ t = .bool ch ∧ Hid (wr.ownsRow w.heap.size 3 1 v so.length (so.map (Value.int .i64)) ∧ Below w.heap.size w wr ∧ SoF V (rs.map (·.ns)) (negs c) cn so ∧ (ch = false → ∀ j (hj : j < rs.length), j < k → SatC so rs[j].ns) ∧ so0.length ≤ so.length ∧ (ch = true → so0.length < so.length))) (fun _ _ i _ => rs.length - (intOf i).toNat)
          case atStart => exact ⟨0, so0, false, Nat.zero_le _, rfl, rfl, HJ0.out.1, HJ0.out.2.1, HJ0.out.2.2, fun _ j _ hj => by omega, Nat.le_refl _, fun e => by cases e⟩
          case round =>
            clear HJ0
            obtain ⟨k, so, ch, hk, rfl, rfl, HJ⟩ := hrel
            obtain ⟨pt, ct, rfl, hso⟩ := owns_intsR HJ.out.1
            by_cases hlt : k < rs.length
            · obtain ⟨b, off, rfl, hcc⟩ := (HR.out.later HJ.out.2.1) (by omega)
              have d0 := hcc k hlt
              have hkl : (k : Int) < (rs.length : Int) := by omega
              have HII := hide ((HRI.out rs[k] (List.getElem_mem hlt)).later HJ.out.2.1)
              have hxr := HX.out rs[k] (List.getElem_mem hlt)
              have HNM := hide hxr.2
              have hdl := hxr.1
              have HDM : Hid (rs[k].ns ∈ rs.map (·.ns)) := List.mem_map.2 ⟨rs[k], List.getElem_mem hlt, rfl⟩
              have HSK : Hid (ch = false → SatC so rs[k].ns → ∀ j (hj : j < rs.length), j < k + 1 → SatC so rs[j].ns) := fun e h1 j hj hjk => by
                rcases Nat.lt_succ_iff_lt_or_eq.1 hjk with h2 | rfl
                · exact HJ.out.2.2.2.1 e j hj h2
                · exact h1
              have HSF := hide HJ.out.2.2.1
              have HRW := hide HJ.out.1
              have HBW := hide HJ.out.2.1
              have HGE := hide HJ.out.2.2.2.2
              have hlen : so.length ≤ 500000 := by
                obtain ⟨t, e1, e2⟩ := HSF.out.form
                have h1 := nodup_len e2 (fun x hx => HSF.out.num x (by rw [e1]; simp [hx]))
                have h2 := HLC.out
                rw [e1, List.length_append]
                omega
              have HHA := hide (fun n => hasR_any so (by omega) pt ct n wr hso)
              unfold Row.v at d0
              clear HJ hcc hso hxr
              generalize rs[k].ns = d at *
              generalize rs[k].at' = ad at *
              generalize rs[k].cap = cd at *
              go_wp2_with fail
              go_loopw [9, 10, 11, 12] (fun l m f i w' => ∃ j : Nat, j ≤ d.length ∧ i = .int .i64 j ∧ l = .int .i64 (cntK so d j).1 ∧ m = .int .i64 ((cntK so d j).2 : Nat) ∧ f = .bool ((d.take j).any fun x => decide (x ∈ so)) ∧ w' = wr) (fun _ _ _ i _ => d.length - (intOf i).toNat)
              case atStart => exact ⟨0, Nat.zero_le _, rfl, rfl, rfl, rfl, rfl⟩
              case round =>
                obtain ⟨j, hj, rfl, rfl, rfl, rfl, rfl⟩ := hrel
                by_cases hjl : j < d.length
                · have hji : (j : Int) < (d.length : Int) := by omega
                  obtain ⟨bd, od, rfl, hdc⟩ := HII.out (by omega)
                  have e0 := hdc j hjl
                  have hnum := HNM.out _ (List.getElem_mem hjl)
                  have hn1 := hnum.2.1
                  have hn2 := hnum.2.2
                  have hwn : wrap64 (-d[j]) = -d[j] := wrap_in9 _ (by omega) (by omega)
                  have hgd : d.getD j 0 = d[j] := by rw [List.getD, List.getElem?_eq_getElem hjl]; rfl
                  have HCK : Hid (cntK so d (j + 1) = if d[j] ∈ so ∨ -d[j] ∈ so ∨ d[j] = (cntK so d j).1 then cntK so d j else (d[j], (cntK so d j).2 + 1)) := by
                    unfold Hid; rw [cntK, hgd]
                  have HFK : Hid ((d.take (j + 1)).any (fun x => decide (x ∈ so)) = ((d.take j).any (fun x => decide (x ∈ so)) || decide (d[j] ∈ so))) := by
                    unfold Hid; rw [List.take_succ_eq_append_getElem hjl, List.any_append]; simp
                  have hcm := cntK_le so d j
                  have HH1 := hide (HHA.out d[j])
                  have HH2 := hide (HHA.out (-d[j]))
                  clear hdc hgd hnum
                  generalize (d.take j).any (fun x => decide (x ∈ so)) = fi at *
                  generalize cntK so d j = cs' at *
                  obtain ⟨lf, mn⟩ := cs'
                  simp only at hcm HCK ⊢
                  generalize d[j] = x at *
                  have hmi : (mn : Int) ≤ 200 := by omega
                  cases hb1 : decide (x ∈ so)
                  · have hb1' : x ∉ so := by simpa using hb1
                    rw [hb1] at HH1 HFK
                    cases hb2 : decide (-x ∈ so)
                    · have hb2' : -x ∉ so := by simpa using hb2
                      rw [hb2] at HH2
                      by_cases hb3 : x = lf
                      · subst hb3
                        have HC2 : Hid (cntK so d (j + 1) = (x, mn)) := by unfold Hid; rw [HCK.out, if_pos (.inr (.inr rfl))]
                        clear HCK hb1 hb2 hb1' hb2'
                        go_wp2_with (first | (go_at_call 45; with_reducible refine HH1.out.mono ?_; rintro e w' ⟨rfl, hw'⟩; obtain rfl : wr = w' := hw'.symm) | (go_at_call 45; with_reducible refine HH2.out.mono ?_; rintro e w' ⟨rfl, hw'⟩; obtain rfl : wr = w' := hw'.symm))
                        refine ⟨⟨j + 1, by omega, by go_num, by rw [HC2.out], by first | (rw [HC2.out]; done) | (rw [HC2.out]; rfl) | (rw [HC2.out]; simp), by rw [HFK.out]; simp, by first | rfl | trivial⟩, by simp [intOf]; omega⟩
                      · have HC2 : Hid (cntK so d (j + 1) = (x, mn + 1)) := by
                          unfold Hid; rw [HCK.out, if_neg]
                          rintro (e | e | e)
                          · exact hb1' e
                          · exact hb2' e
                          · exact hb3 e
                        have hb3f : (x == lf) = false := by simpa using hb3
                        clear HCK hb1 hb2 hb1' hb2'
                        go_wp2_with (first | (go_at_call 45; with_reducible refine HH1.out.mono ?_; rintro e w' ⟨rfl, hw'⟩; obtain rfl : wr = w' := hw'.symm) | (go_at_call 45; with_reducible refine HH2.out.mono ?_; rintro e w' ⟨rfl, hw'⟩; obtain rfl : wr = w' := hw'.symm))
                        refine ⟨⟨j + 1, by omega, by go_num, by rw [HC2.out], by first | (rw [HC2.out]; done) | (rw [HC2.out]; rfl) | (rw [HC2.out]; simp), by rw [HFK.out]; simp, by first | rfl | trivial⟩, by simp [intOf]; omega⟩
                    · have hb2' : -x ∈ so := by simpa using hb2
                      rw [hb2] at HH2
                      have HC2 : Hid (cntK so d (j + 1) = (lf, mn)) := by unfold Hid; rw [HCK.out, if_pos (.inr (.inl hb2'))]
                      clear HCK hb1 hb2 hb1' hb2'
                      go_wp2_with (first | (go_at_call 45; with_reducible refine HH1.out.mono ?_; rintro e w' ⟨rfl, hw'⟩; obtain rfl : wr = w' := hw'.symm) | (go_at_call 45; with_reducible refine HH2.out.mono ?_; rintro e w' ⟨rfl, hw'⟩; obtain rfl : wr = w' := hw'.symm))
                      refine ⟨⟨j + 1, by omega, by go_num, by rw [HC2.out], by first | (rw [HC2.out]; done) | (rw [HC2.out]; rfl) | (rw [HC2.out]; simp), by rw [HFK.out]; simp, by first | rfl | trivial⟩, by simp [intOf]; omega⟩
                  · have hb1' : x ∈ so := by simpa using hb1
                    rw [hb1] at HH1 HFK
                    have HC2 : Hid (cntK so d (j + 1) = (lf, mn)) := by unfold Hid; rw [HCK.out, if_pos (.inl hb1')]
                    clear HCK hb1 hb1'
                    go_wp2_with (first | (go_at_call 45; with_reducible refine HH1.out.mono ?_; rintro e w' ⟨rfl, hw'⟩; obtain rfl : wr = w' := hw'.symm) | (go_at_call 45; with_reducible refine HH2.out.mono ?_; rintro e w' ⟨rfl, hw'⟩; obtain rfl : wr = w' := hw'.symm))
                    refine ⟨⟨j + 1, by omega, by go_num, by rw [HC2.out], by first | (rw [HC2.out]; done) | (rw [HC2.out]; rfl) | (rw [HC2.out]; simp), by rw [HFK.out]; simp, by first | rfl | trivial⟩, by simp [intOf]; omega⟩
                · obtain rfl : j = d.length := by omega
                  have hji : ¬ ((d.length : Nat) : Int) < (d.length : Int) := by omega
                  have HX0 : Hid (∀ x ∈ d, x ≠ 0) := fun x hx => (HNM.out x hx).1
                  have HFN : Hid ((d.take d.length).any (fun x => decide (x ∈ so)) = false → ∀ x ∈ d, x ∉ so) := fun e x hx => by
                    rw [List.take_length, List.any_eq_false] at e
                    simpa using e x hx
                  have HFY : Hid ((d.take d.length).any (fun x => decide (x ∈ so)) = true → SatC so d) := fun e => by
                    rw [List.take_length, List.any_eq_true] at e
                    obtain ⟨x, hx, e⟩ := e
                    exact .inl ⟨x, hx, by simpa using e⟩
                  have HMO := hide (fun h1 h2 => HSF.out.more HDM.out HNM.out h1 h2)
                  have HFA := hide (fun h1 h2 => HSF.out.fail HDM.out HX0.out h1 h2)
                  have HSA := hide (fun h2 => HSF.out.sat HX0.out h2)
                  have hcm := cntK_le so d d.length
                  generalize (d.take d.length).any (fun x => decide (x ∈ so)) = fi at *
                  generalize cntK so d d.length = cs' at *
                  obtain ⟨lf, mn⟩ := cs'
                  simp only at hcm HMO HFA HSA ⊢
                  have hszw := HBW.out.size
                  cases fi
                  · have HNO := hide (HFN.out rfl)
                    clear HFN HFY
                    by_cases h0 : mn = 0
                    · subst h0
                      have HCF := hide (HFA.out HNO.out rfl)
                      clear HMO HFA HSA
                      go_wp2_with fail
                      go_ret
                      exact ⟨true, rfl, ⟨fun _ => HCF.out, fun _ => rfl⟩, HBW.out⟩
                    · have h0i : ¬ (mn : Int) = 0 := by omega
                      by_cases h1 : mn = 1
                      · subst h1
                        have HMM := hide (HMO.out HNO.out rfl)
                        clear HMO HFA HSA h0 h0i
                        go_wp2_with (first | (at_builtin; refine wpList_append_own _ rfl _ _ 38 rfl w.heap.size 3 i0 (.int .i64 0) 1 8 Tryz.underlying38 HIN.out.1 HIN.out.2.1 HIN.out.2.2.1 HIN.out.2.2.2 rfl (by decide) _ so.length _ rfl (HRW.out.alloc _) ⟨wr.heap.size, 0, none⟩ 1 1 [.int .i64 lf] rfl rfl (one_newsI lf wr) (one_cellI lf) (by unfold maxLen; omega) (by omega) (by simp; omega) ?_; intro v2 w2 hown2 hg2 _))
                        have HR2 : Hid (w2.ownsRow w.heap.size 3 1 v2 (so ++ [lf]).length ((so ++ [lf]).map (Value.int .i64))) := by
                          unfold Hid; simpa using hown2
                        have HB2 : Hid (Below w.heap.size w w2) := (bal HBW.out _).grown hg2 (by simp; omega) (fun j hj => (HRW.out.lt j hj).1)
                        have hge := HGE.out.1
                        refine ⟨⟨k + 1, so ++ [lf], true, by omega, by go_num, rfl, HR2.out, HB2.out, HMM.out, (fun e => by cases e), by rw [List.length_append]; omega, fun _ => by rw [List.length_append]; simp; omega⟩, by simp [intOf]; omega⟩
                      · have h1i : ¬ (mn : Int) = 1 := by omega
                        have HS2 := hide (HSA.out (by omega))
                        clear HMO HFA HSA
                        go_wp2_with fail
                        go_roundw
                        case rel => exact ⟨k + 1, so, ch, by omega, by go_num, rfl, HRW.out, HBW.out, HSF.out, fun e => HSK.out e HS2.out, HGE.out.1, HGE.out.2⟩
                        case measure => simp [intOf]; omega
                  · have HS2 := hide (HFY.out rfl)
                    clear HFN HFY HMO HFA HSA
                    go_wp2_with fail
                    go_roundw
                    case rel => exact ⟨k + 1, so, ch, by omega, by go_num, rfl, HRW.out, HBW.out, HSF.out, fun e => HSK.out e HS2.out, HGE.out.1, HGE.out.2⟩
                    case measure => simp [intOf]; omega
            · obtain rfl : k = rs.length := by omega
              have hkl : ¬ ((rs.length : Nat) : Int) < (rs.length : Int) := by omega
              clear hso
              go_wp2_with fail
              go_roundw
              case rel => exact ⟨so, ch, rfl, HJ.out.1, HJ.out.2.1, HJ.out.2.2.1, fun e d hd => by
                obtain ⟨r, hr', rfl⟩ := List.mem_map.1 hd
                obtain ⟨j, hj, rfl⟩ := List.getElem_of_mem hr'
                exact HJ.out.2.2.2.1 e j hj hj⟩
              case measure =>
                have h1 := HJ.out.2.2.2.2
                cases ch
                · first | (simp; done) | (simp; omega) | (simp only; omega)
                · have := h1.2 rfl
                  obtain ⟨t, e1, e2⟩ := HJ.out.2.2.1.form
                  have h3 := nodup_len e2 (fun x hx => HJ.out.2.2.1.num x (by rw [e1]; simp [hx]))
                  have h2 := HLC.out
                  have h4 : so.length ≤ 500000 := by rw [e1, List.length_append]; omega
                  simp only
                  omega
end Go.Proofs.YtkinmangilbeeaaGreatDoor.Pf
