/- A circuit is checked: the plain text. -/
import Derived.Test.YtjhkecnnhddhbaaGreatDoorBa
namespace Go.Proofs.YtjhkecnnhddhbaaGreatDoor
open Go.RowKit Go.Maps Go.WideMaps
set_option maxRecDepth 100000
set_option maxRecDepth 100000

theorem lits_not (e : Int) (ls : List Int) : ls.all (isLit e) = !ls.any (noLit e) := by
  induction ls with
  | nil => rfl
  | cons a l ih => simp only [List.all_cons, List.any_cons, ih, isLit]; cases noLit e a <;> simp
theorem wrap_far {a s ins : Int} (ha : 0 ≤ a) (ha2 : a ≤ 9223372036854775807) (hs : 0 ≤ s) (hs2 : s ≤ 9223372036854775807) (h0 : 0 ≤ ins) (h1 : ins ≤ 1000) (h : a + s ≠ ins) : (IntKind.i64.wrap (a + s) != ins) = true := by
  rw [IntKind.wrap_i64]
  simp
  omega

set_option maxHeartbeats 8000000 in
theorem plainB_any (ins : Int) (p : Option Addr) (cap : Nat) (ps : List (Int × Int)) (hwf : WfP ps) (hl : ps.length ≤ 8796093022208) (a s : Int) (ha : Wf a) (hs : Wf s) (i n b h : Sl) (hli : i.ns.length ≤ maxLen) (hln : n.ns.length ≤ maxLen) (hlb : b.ns.length ≤ maxLen) (hlh : h.ns.length ≤ maxLen) (w : World) (hC : CirAt w p ps i n b h) :
    Calls Tryz.prog 20 #[circ ins p ps.length cap a s i n b h] w fun e w' => e = .returned (.int .i64 (cirE ins ps a s i.ns n.ns b.ns h.ns)) ∧ Below w.heap.size w w' := by
  have hB0 : Below w.heap.size w (w.alloc (.cells (circC ins p ps.length cap a s i n b h) 27)) := bal (Below.refl _ _) _
  have HC := hide (checkGraph_any ins p cap ps hwf hl _ (hC.g.later hB0))
  have HK := hide hC
  unfold maxLen at hli hln hlb hlh
  clear hC hwf
  by_cases hc : chkE ins ps = 0
  · obtain ⟨h0, h1, hlen, _, _⟩ := chk_zero hc
    have HE : Hid (cirE ins ps a s i.ns n.ns b.ns h.ns = if a < 0 ∨ s < 0 ∨ a + s ≠ ins then 4 else if (i.ns.length : Int) ≠ s ∨ (n.ns.length : Int) ≠ s then 1 else if (i.ns.any (badI (2 * (1 + ins + ps.length))) || n.ns.any (noLit (2 * (1 + ins + ps.length))) || b.ns.any (noLit (2 * (1 + ins + ps.length))) || h.ns.any (noLit (2 * (1 + ins + ps.length)))) = true then 5 else 0) := by unfold cirE; rw [if_neg (by simpa using hc)]; rfl
    rw [hc] at HC
    clear hc
    generalize cirE ins ps a s i.ns n.ns b.ns h.ns = R at *
    go_enter Tryz.func20, Tryz.ntmps20
    go_wp2_with fail
    refine HC.out.mono ?_
    rintro e w1 ⟨rfl, hb1⟩
    have HB1 := hide (bthen hB0 hb1)
    have q0 := cell_later hb1 (a := ⟨w.heap.size, 0, none⟩) (v := .int .i64 ins) (by simp [go_sem])
    have q1 := cell_later hb1 (a := ⟨w.heap.size, 1, none⟩) (v := .slice p ps.length cap) (by simp [go_sem])
    have q2 := cell_later hb1 (a := ⟨w.heap.size, 2, none⟩) (v := .int .i64 a) (by simp [go_sem])
    have q3 := cell_later hb1 (a := ⟨w.heap.size, 3, none⟩) (v := .int .i64 s) (by simp [go_sem])
    have q4 := cell_later hb1 (a := ⟨w.heap.size, 4, none⟩) (v := i.v) (by simp [go_sem])
    have q5 := cell_later hb1 (a := ⟨w.heap.size, 5, none⟩) (v := n.v) (by simp [go_sem])
    have q6 := cell_later hb1 (a := ⟨w.heap.size, 6, none⟩) (v := b.v) (by simp [go_sem])
    have q7 := cell_later hb1 (a := ⟨w.heap.size, 7, none⟩) (v := h.v) (by simp [go_sem])
    obtain ⟨ia, il, ic⟩ := i
    obtain ⟨na, nl, nc⟩ := n
    obtain ⟨ba, bl, bc⟩ := b
    obtain ⟨ga, gl, gc⟩ := h
    simp only [Sl.v] at *
    have HW := hide ha
    have HWS := hide hs
    clear hb1 hB0 HC ha hs
    by_cases ha0 : a < 0
    · have HX : Hid (R = 4) := by rw [HE.out, if_pos (Or.inl ha0)]; rfl
      clear HE
      go_wp2
      go_ret
      exact ⟨ret_int HX.out.symm, HB1.out⟩
    · by_cases hs0 : s < 0
      · have HX : Hid (R = 4) := by rw [HE.out, if_pos (Or.inr (Or.inl hs0))]; rfl
        clear HE
        go_wp2
        go_ret
        exact ⟨ret_int HX.out.symm, HB1.out⟩
      · by_cases hsum : a + s = ins
        · have hw := wrap_id (x := a + s) (by omega) (by omega)
          have hne : (a + s != ins) = false := by simpa using hsum
          rw [if_neg (by omega)] at HE
          by_cases hi : (il.length : Int) = s
          · by_cases hn : (nl.length : Int) = s
            · rw [if_neg (by omega)] at HE
              have hi' : ((il.length : Int) != s) = false := by simpa using hi
              have hn' : ((nl.length : Int) != s) = false := by simpa using hn
              have HLT := hide (fun (x : Int) (w' : World) => isLit_any ins p ps.length cap x h0 h1 (by omega) w')
              have HH := hide (fun (l : List Int) (q : Option Addr) (qc : Nat) (hl : l.length ≤ maxLen) (w' : World) (hI : IntsAt w' q l) => by
                have := areLits_any ins p ps.length cap h0 h1 (by omega) l q qc hl w' hI
                rw [lits_not] at this
                exact this)
              clear hi hn
              go_wp2
              go_loopw [4] (fun j wr => ∃ k : Nat, k ≤ il.length ∧ j = .int .i64 k ∧ Hid (∀ i (hi : i < il.length), i < k → badI (2 * (1 + ins + ps.length)) il[i] = false) ∧ Hid (Below w1.heap.size w1 wr)) (fun j _ => il.length - (intOf j).toNat)
              case atStart => exact ⟨0, Nat.zero_le _, rfl, fun i hi h => by omega, Below.refl _ _⟩
              case round =>
                obtain ⟨k, hk, rfl, hno, HR⟩ := hrel
                have p0 := cell_later HR.out q0
                have p1 := cell_later HR.out q1
                have p4 := cell_later HR.out q4
                have HBW := hide (bthen HB1.out HR.out)
                by_cases hlt : k < il.length
                · obtain ⟨ib, io, rfl, hic⟩ := (HK.out.i.later HBW.out) (by simp; omega)
                  have hck := hic k hlt
                  simp only at hck
                  have hki : (k : Int) < (il.length : Int) := by omega
                  have HN : Hid (badI (2 * (1 + ins + ps.length)) il[k] = false → ∀ i (hi : i < il.length), i < k + 1 → badI (2 * (1 + ins + ps.length)) il[i] = false) := by
                    intro hf i hi h
                    rcases Nat.lt_succ_iff_lt_or_eq.1 h with h1 | rfl
                    · exact hno.out i hi h1
                    · exact hf
                  have HY : Hid (badI (2 * (1 + ins + ps.length)) il[k] = true → R = 5) := fun hf => by
                    have : il.any (badI (2 * (1 + ins + ps.length))) = true := List.any_eq_true.2 ⟨_, List.getElem_mem hlt, hf⟩
                    rw [HE.out, this]; rfl
                  clear hic hno
                  generalize il[k] = x at *
                  have HBI : Hid (badI (2 * (1 + ins + ps.length)) x = (x != -1 && noLit (2 * (1 + ins + ps.length)) x)) := rfl
                  have hbd : Below wr.heap.size wr wr.drew := (Below.refl _ wr).drew
                  by_cases hx : x = -1
                  · have HX := hide (HN.out (by rw [HBI.out]; simp [hx]))
                    subst hx
                    have HR2 := hide (fun n => bthen HR.out (bdn (Below.refl wr.heap.size wr) n))
                    go_wp2
                    go_quiet (fail)
                    go_wp2
                    go_roundw
                    case rel => exact ⟨k + 1, by omega, by go_num, HX, HR2.out _⟩
                    case measure => simp [intOf]; omega
                  · have hx' : (x != -1) = true := by simpa using hx
                    have hx2 : (x == -1) = false := by simpa using hx
                    have HLX := hide (HLT.out x wr.drew)
                    have HIL : Hid (isLit (2 * (1 + ins + ps.length)) x = !noLit (2 * (1 + ins + ps.length)) x) := rfl
                    rw [HIL.out] at HLX
                    rw [hx'] at HBI
                    cases hz : noLit (2 * (1 + ins + ps.length)) x
                    · have HX := hide (HN.out (by rw [HBI.out, hz]; rfl))
                      rw [hz] at HLX
                      clear HN HY HBI hz
                      go_wp2
                      go_region_held3 (fun w' => w'.cell? ⟨w.heap.size, 0, none⟩ = some (.int .i64 ins) ∧ w'.cell? ⟨w.heap.size, 1, none⟩ = some (.slice p ps.length cap) ∧ w'.cell? ⟨w.heap.size, 4, none⟩ = some (.slice (some ⟨ib, io, none⟩) il.length ic) ∧ w'.cell? ⟨ib, io + k, none⟩ = some (.int .i64 x))
                        (first | exact ⟨cell_later hbN p0, cell_later hbN p1, cell_later hbN p4, cell_later hbN hck⟩ | go_keep)
                        ((go_at_call 53; refine HLX.out.mono ?_; rintro e wN ⟨rfl, hbM⟩; have hbN : Below wr.heap.size wr wN := hbd.trans (show Below wr.heap.size wr.drew wN from hbM)))
                      all_goals
                        have HR2 := hide (bthen HR.out hbN)
                        go_wp2
                        go_roundw
                        case rel => exact ⟨k + 1, by omega, by go_num, HX, HR2⟩
                        case measure => simp [intOf]; omega
                    · have HX := hide (HY.out (by rw [HBI.out, hz]; rfl))
                      rw [hz] at HLX
                      clear HN HY HBI hz
                      go_wp2
                      go_region_held3 (fun w' => w'.cell? ⟨w.heap.size, 0, none⟩ = some (.int .i64 ins) ∧ w'.cell? ⟨w.heap.size, 1, none⟩ = some (.slice p ps.length cap) ∧ w'.cell? ⟨w.heap.size, 4, none⟩ = some (.slice (some ⟨ib, io, none⟩) il.length ic) ∧ w'.cell? ⟨ib, io + k, none⟩ = some (.int .i64 x))
                        (first | exact ⟨cell_later hbN p0, cell_later hbN p1, cell_later hbN p4, cell_later hbN hck⟩ | go_keep)
                        ((go_at_call 53; refine HLX.out.mono ?_; rintro e wN ⟨rfl, hbM⟩; have hbN : Below wr.heap.size wr wN := hbd.trans (show Below wr.heap.size wr.drew wN from hbM)))
                      all_goals
                        have HR2 := hide (bthen HBW.out hbN)
                        go_wp2
                        go_ret
                        exact ⟨ret_int HX.out.symm, HR2.out⟩
                · have h3 : il.any (badI (2 * (1 + ins + ps.length))) = false := by
                    rw [List.any_eq_false]
                    intro y hy
                    obtain ⟨t, ht, rfl⟩ := List.getElem_of_mem hy
                    rw [hno.out t ht (by omega)]; simp
                  rw [h3] at HE
                  have p5 := cell_later HR.out q5
                  have p6 := cell_later HR.out q6
                  have p7 := cell_later HR.out q7
                  clear h3 hno
                  go_wp2_with fail
                  refine (HH.out nl na nc (by unfold maxLen; omega) _ (HK.out.n.later HBW.out)).mono ?_
                  rintro e w3 ⟨rfl, hb3⟩
                  have r0 := cell_later hb3 p0
                  have r1 := cell_later hb3 p1
                  have r6 := cell_later hb3 p6
                  have r7 := cell_later hb3 p7
                  have HB3 := hide (bthen HBW.out hb3)
                  clear hb3 p0 p1 p4 p5 p6 p7
                  cases h4 : nl.any (noLit (2 * (1 + ins + ps.length)))
                  · rw [h4] at HE
                    clear h4
                    go_wp2_with fail
                    refine (HH.out bl ba bc (by unfold maxLen; omega) _ (HK.out.b.later HB3.out)).mono ?_
                    rintro e w4 ⟨rfl, hb4⟩
                    have p0 := cell_later hb4 r0
                    have p1 := cell_later hb4 r1
                    have p7 := cell_later hb4 r7
                    have HB4 := hide (bthen HB3.out hb4)
                    clear hb4 r0 r1 r6 r7 HB3
                    cases h5 : bl.any (noLit (2 * (1 + ins + ps.length)))
                    · rw [h5] at HE
                      clear h5
                      go_wp2_with fail
                      refine (HH.out gl ga gc (by unfold maxLen; omega) _ (HK.out.h.later HB4.out)).mono ?_
                      rintro e w5 ⟨rfl, hb5⟩
                      have HB5 := hide (bthen HB4.out hb5)
                      clear hb5 p0 p1 p7 HB4
                      cases h6 : gl.any (noLit (2 * (1 + ins + ps.length)))
                      · have HX : Hid (R = 0) := by rw [HE.out, h6]; rfl
                        clear HE h6
                        go_wp2
                        go_ret
                        exact ⟨ret_int HX.out.symm, HB5.out⟩
                      · have HX : Hid (R = 5) := by rw [HE.out, h6]; rfl
                        clear HE h6
                        go_wp2
                        go_ret
                        exact ⟨ret_int HX.out.symm, HB5.out⟩
                    · have HX : Hid (R = 5) := by rw [HE.out, h5]; rfl
                      clear HE h5
                      go_wp2
                      go_ret
                      exact ⟨ret_int HX.out.symm, HB4.out⟩
                  · have HX : Hid (R = 5) := by rw [HE.out, h4]; rfl
                    clear HE h4
                    go_wp2
                    go_ret
                    exact ⟨ret_int HX.out.symm, HB3.out⟩
            · have HX : Hid (R = 1) := by rw [HE.out, if_pos (Or.inr (by simpa using hn))]; rfl
              have hi' : ((il.length : Int) != s) = false := by simpa using hi
              have hn' : ((nl.length : Int) != s) = true := by simpa using hn
              clear HE hi hn
              go_wp2
              go_ret
              exact ⟨ret_int HX.out.symm, HB1.out⟩
          · have HX : Hid (R = 1) := by rw [HE.out, if_pos (Or.inl (by simpa using hi))]; rfl
            have hi' : ((il.length : Int) != s) = true := by simpa using hi
            clear HE hi
            go_wp2
            go_ret
            exact ⟨ret_int HX.out.symm, HB1.out⟩
        · have HX : Hid (R = 4) := by rw [HE.out, if_pos (Or.inr (Or.inr hsum))]; rfl
          have hne := wrap_far (by omega) HW.out.2 (by omega) HWS.out.2 h0 h1 hsum
          have hne3 : ¬ wrap64 (a + s) = ins := by
            have h5 := HW.out.2
            have h6 := HWS.out.2
            unfold wrap64
            omega
          have hne2 : (wrap64 (a + s) != ins) = true := by simpa using hne3
          clear HE hsum
          go_wp2
          go_ret
          exact ⟨ret_int HX.out.symm, HB1.out⟩
  · have hne : (chkE ins ps != 0) = true := by simpa using hc
    have HE : Hid (cirE ins ps a s i.ns n.ns b.ns h.ns = chkE ins ps) := by unfold cirE; rw [if_pos hc]; rfl
    clear hc
    generalize chkE ins ps = Z at *
    generalize cirE ins ps a s i.ns n.ns b.ns h.ns = R at *
    go_enter Tryz.func20, Tryz.ntmps20
    go_wp2_with fail
    refine HC.out.mono ?_
    rintro e w1 ⟨rfl, hb1⟩
    have HB1 := hide (bthen hB0 hb1)
    clear hb1 hB0 HC
    go_wp2
    go_ret
    exact ⟨ret_int HE.out.symm, HB1.out⟩

end Go.Proofs.YtjhkecnnhddhbaaGreatDoor
