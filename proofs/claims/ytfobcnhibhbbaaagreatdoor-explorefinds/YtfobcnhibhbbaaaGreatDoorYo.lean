/- What states follow, and begin as: lists that are new, with room as a slice has. -/
import Derived.Test.YtfobcnhibhbbaaaGreatDoorYnM
namespace Go.Proofs.YtfobcnhibhbbaaaGreatDoor.Ev.Xp
open Go.RowKit
set_option maxRecDepth 100000

set_option maxRecDepth 100000 in
set_option maxHeartbeats 4000000 in
theorem follow_new (m : Mv) (ns : List Nd) (hl : ns.length ≤ 80) (l : List (Int × Int)) (hll : l.length ≤ 8796093022208) (hin : ∀ p ∈ l, 0 ≤ p.2 ∧ p.2 < ns.length) (vs : List Int) (hvs : vs.length = ns.length) (pp pv : Option Addr) (cp cv : Nat) (w : World) (hN : NodesAt w m.a0 ns) (hP : PairsAt w pp l) (hV : IntsAt w pv vs) :
    Calls Tryz.prog 37 #[m.val ns.length, .slice pp l.length cp, .slice pv vs.length cv] w fun e w' =>
      ∃ p cap, e = .returned (.slice p (followL ns l vs).length cap) ∧ NL w.heap.size w' p cap (followL ns l vs) ∧ Below w.heap.size w w' := by
  obtain ⟨i0, hi, hz0, hz1, hz2⟩ := info_parts info3
  obtain ⟨a0, c0, a1, l1, c1, a2, l2, c2, a3, l3, c3, a4, l4, c4⟩ := m
  simp only at hN
  have HB0 : Hid (Below w.heap.size w (w.alloc (.cells (Mv.cells ⟨a0, c0, a1, l1, c1, a2, l2, c2, a3, l3, c3, a4, l4, c4⟩ ns.length) 26))) := bal (Below.refl _ _) _
  have HK := hide (fun _ : Unit => ofKind_any a0 c0 ns (by omega) 3 _ (hN.later HB0.out))
  have HBD : Hid (∀ k (h : k < (sel (isK ns 3) ns.length).length), 0 ≤ (sel (isK ns 3) ns.length)[k] ∧ (sel (isK ns 3) ns.length)[k] < ns.length) := fun k h => sel_bd h
  have hsl := sel_len (isK ns 3) ns.length
  have HFL : Hid (followL ns l vs = (sel (isK ns 3) ns.length).map (fun s => vs.getD (fromOf s l).toNat 0)) := rfl
  have HP := hide hP
  have HV := hide hV
  have HIn := hide hin
  have HVL := hide hvs
  clear hN hP hV hin hvs
  generalize followL ns l vs = F at *
  generalize sel (isK ns 3) ns.length = S at *
  go_enter Tryz.func37, Tryz.ntmps37
  go_wp2_with fail
  refine (HK.out ()).mono ?_
  rintro e w1 ⟨q, qc, rfl, hQ, hb1⟩
  have HB1 := hide (bthen HB0.out hb1)
  have HQ := hide hQ
  clear hb1 hQ HB0 HK
  go_wp2
  go_loopw [7, 17] (fun v i wr => ∃ k : Nat, k ≤ S.length ∧ i = .int .i64 k ∧ wr.ownsRow w1.heap.size 3 1 v ((S.take k).map (fun s => vs.getD (fromOf s l).toNat 0)).length (((S.take k).map (fun s => vs.getD (fromOf s l).toNat 0)).map (Value.int .i64)) ∧ Below w1.heap.size w1 wr) (fun _ i _ => S.length - (intOf i).toNat)
  case atStart => exact ⟨0, Nat.zero_le _, rfl, World.ownsRow_nil _ _ _ _, Below.refl _ _⟩
  case round =>
  obtain ⟨k, hk, rfl, hown, hbw⟩ := hrel
  by_cases hlt : k < S.length
  · obtain ⟨b, off, rfl, hc⟩ := (HQ.out.later hbw) (by omega)
    have d0 := hc k hlt
    have hkl : (k : Int) < (S.length : Int) := by omega
    obtain ⟨s0, s1⟩ := HBD.out k hlt
    have HS : Hid ((S.take (k + 1)).map (fun s => vs.getD (fromOf s l).toNat 0) = (S.take k).map (fun s => vs.getD (fromOf s l).toNat 0) ++ [vs.getD (fromOf S[k] l).toNat 0]) := by
      rw [List.take_succ_eq_append_getElem hlt, List.map_append]; rfl
    have hlen : ((S.take k).map (fun s => vs.getD (fromOf s l).toNat 0)).length ≤ 80 := by simp; omega
    clear hc
    generalize S[k] = s at *
    generalize (S.take k).map (fun s => vs.getD (fromOf s l).toNat 0) = F0 at *
    have HFI := hide (fromOf_in (n := ns.length) ⟨s0, s1⟩ HIn.out)
    go_wp2
    go_loopw [10, 24] (fun f j wq => ∃ jj : Nat, jj ≤ l.length ∧ j = .int .i64 jj ∧ f = .int .i64 (fromOf s (l.take jj)) ∧ wq.ownsRow w1.heap.size 3 1 u7 F0.length (F0.map (Value.int .i64)) ∧ Below w1.heap.size w1 wq) (fun _ j _ => l.length - (intOf j).toNat)
    case atStart => exact ⟨0, Nat.zero_le _, rfl, rfl, hown, hbw⟩
    case round =>
      clear hown hbw
      obtain ⟨j, hj, rfl, rfl, hown, hbw⟩ := hrel
      by_cases hlt2 : j < l.length
      · obtain ⟨b2, off2, rfl, hc2⟩ := (HP.out.later (bthen HB1.out hbw)) (by omega)
        obtain ⟨e0, e1⟩ := hc2 j hlt2
        have HT := hide (fromOf_take s l j hlt2)
        have hjl : (j : Int) < (l.length : Int) := by omega
        clear hc2
        generalize l[j] = pr at *
        obtain ⟨t, y⟩ := pr
        simp only at e0 e1 HT
        cases hf : (t == s)
        · have HS2 : Hid (fromOf s (l.take (j + 1)) = fromOf s (l.take j)) := by rw [HT.out, hf]; simp [Hid]
          clear HT
          go_wp2
          go_roundw
          case rel => first | exact ⟨j + 1, by omega, by go_num, by rw [HS2.out], hown.alloc _, bal hbw _⟩ | ((repeat apply Exists.intro); exact ⟨⟨j + 1, by omega, by go_num, by rw [HS2.out], hown.alloc _, bal hbw _⟩, rfl⟩)
          case measure => simp [intOf]; omega
        · have HS2 : Hid (fromOf s (l.take (j + 1)) = y) := by rw [HT.out, hf]; simp [Hid]
          clear HT
          go_wp2
          go_roundw
          case rel => first | exact ⟨j + 1, by omega, by go_num, by rw [HS2.out], hown.alloc _, bal hbw _⟩ | ((repeat apply Exists.intro); exact ⟨⟨j + 1, by omega, by go_num, by rw [HS2.out], hown.alloc _, bal hbw _⟩, rfl⟩)
          case measure => simp [intOf]; omega
      · obtain rfl : j = l.length := by omega
        rw [List.take_length]
        obtain ⟨f0, f1⟩ := HFI.out
        have hvl := HVL.out
        obtain ⟨b3, off3, rfl, hc3⟩ := (HV.out.later (bthen HB1.out hbw)) (by omega)
        have e3 := hc3 (fromOf s l).toNat (by omega)
        rw [← getD_at] at e3
        have hsz := hbw.size
        have hfv : fromOf s l < (vs.length : Int) := by omega
        generalize vs.getD (fromOf s l).toNat 0 = wv at *
        generalize fromOf s l = f at *
        clear hc3
        have HVL2 := hide hvl
        clear hvl
        go_wp2_with (at_builtin; refine wpList_append_own _ rfl _ _ 24 rfl w1.heap.size 3 i0 (.int .i64 0) 1 8 Tryz.underlying24 hi hz0 hz1 hz2 rfl (by decide) _ _ _ rfl (hown.alloc _) ⟨wr.heap.size, 0, none⟩ 1 1 [.int .i64 wv] rfl rfl ?c1 ?c2 ?c3 ?c4 ?c5 ?_)
        case c1 =>
          intro j u hj
          match j, hj with
          | 0, hj => simp at hj; subst hj; simp [Addr.add]
        case c2 => intro u hu; simp at hu; subst hu; rfl
        case c3 => unfold maxLen; omega
        case c4 => omega
        case c5 => simp; omega
        intro v' w2 hown' hgrow _
        have R := owns_later hown hown' hgrow hbw hsz
        rw [← HS.out] at R
        clear hown' hgrow hown
        go_wp2
        go_roundw
        case rel => first | exact ⟨k + 1, by omega, by go_num, R.1, R.2⟩ | ((repeat apply Exists.intro); exact ⟨⟨k + 1, by omega, by go_num, R.1, R.2⟩, rfl⟩)
        case measure => simp [intOf]; omega
  · obtain rfl : k = S.length := by omega
    rw [List.take_length, ← HFL.out] at hown
    obtain ⟨p, cap, rfl, hJ⟩ := owns_nl hown
    go_wp2
    go_ret
    exact ⟨p, cap, rfl, hJ.mono HB1.out.size, bthen HB1.out hbw⟩
set_option maxRecDepth 100000 in
set_option maxHeartbeats 4000000 in
theorem begin_new (a0 a1 a2 a3 a4 : Option Addr) (c0 c1 c2 c3 c4 : Nat) (ns : List Nd) (is xs : List (Int × Int)) (bs hs : List Int) (hln : ns.length ≤ 2932031007402) (hli : is.length ≤ 8796093022208) (hlx : xs.length ≤ 8796093022208) (hlb : bs.length ≤ maxLen) (hlh : hs.length ≤ maxLen)
    (wish : List Int) (hls : wish.length ≤ maxLen) (v4 : Value) (w : World) (hN : NodesAt w a0 ns) (hI : PairsAt w a1 is) (hX : PairsAt w a2 xs) (hBs : IntsAt w a3 bs) (hHs : IntsAt w a4 hs) (hS : SL w v4 wish) :
    Calls Tryz.prog 19 #[Mv.val ⟨a0, c0, a1, is.length, c1, a2, xs.length, c2, a3, bs.length, c3, a4, hs.length, c4⟩ ns.length, v4] w fun e w' =>
      ∃ p cap l, e = .returned (.tuple #[.slice p l.length cap, .int .i64 (beginE ns is xs bs hs wish)]) ∧ l = beginI ns is (beginE ns is xs bs hs wish) wish ∧ NL w.heap.size w' p cap l ∧ Below w.heap.size w w' := by
  have hlm : ns.length ≤ maxLen := by unfold maxLen; omega
  have HB0 : Hid (Below w.heap.size w (w.alloc (.cells (Mv.cells ⟨a0, c0, a1, is.length, c1, a2, xs.length, c2, a3, bs.length, c3, a4, hs.length, c4⟩ ns.length) 26))) := bal (Below.refl _ _) _
  have HBx := hide (Box.new w ⟨a0, c0, a1, is.length, c1, a2, xs.length, c2, a3, bs.length, c3, a4, hs.length, c4⟩ ns.length)
  have HK := hide (fun _ : Unit => inputs_any a0 a1 a2 a3 a4 c0 c1 c2 c3 c4 ns is xs bs hs hln hli hlx hlb hlh _ (hN.later HB0.out) (hI.later HB0.out) (hX.later HB0.out) (hBs.later HB0.out) (hHs.later HB0.out))
  have HVA := hide (fun (v5 : Value) (w1 : World) (hb : Below w.heap.size w w1) (hT : SL w1 v5 (zeroI ns)) (hq : (zeroI ns).length ≤ maxLen) => values_any a0 a1 a2 a3 a4 c0 c1 c2 c3 c4 ns is xs bs hs hlm hli hlx hlb hlh wish (zeroI ns) hls hq v4 v5 w1 (hN.later hb) (hI.later hb) (hX.later hb) (hBs.later hb) (hHs.later hb) (hS.later hb) hT)
  have HFO := hide (fun (hl : ns.length ≤ 80) (hin : ∀ p ∈ is, 0 ≤ p.2 ∧ p.2 < (ns.length : Int)) (vs : List Int) (hvs : vs.length = ns.length) (pv : Option Addr) (cv : Nat) (w1 : World) (hb : Below w.heap.size w w1) (hV : IntsAt w1 pv vs) => follow_new ⟨a0, c0, a1, is.length, c1, a2, xs.length, c2, a3, bs.length, c3, a4, hs.length, c4⟩ ns hl is hli hin vs hvs a1 pv c1 cv w1 (hN.later hb) (hI.later hb) hV)
  have HRB := hide (@ready_begin ns is xs bs hs wish)
  have HCZ := hide (@check_zero ns is xs bs hs)
  have HBE : Hid (checkE ns is xs bs hs ≠ 0 → beginE ns is xs bs hs wish = checkE ns is xs bs hs) := fun h => by unfold beginE; rw [if_pos h]
  have HV0 : Hid (valsI ns 0 wish (zeroI ns) = vals ns wish (zeroI ns) ns.length) := by unfold valsI; rw [if_pos rfl]; rfl
  have HN0 : Hid (beginI ns is 0 wish = followL ns is (vals ns wish (zeroI ns) ns.length)) := by unfold beginI; rw [if_pos rfl]; rfl
  have HNE : Hid (∀ e : Int, e ≠ 0 → beginI ns is e wish = []) := fun e h => by unfold beginI; rw [if_neg h]
  have HZL : Hid (zeroI ns = List.replicate (sel (isK ns 2) ns.length).length 0) := rfl
  have hsl2 := sel_len (isK ns 2) ns.length
  clear hN hI hX hBs hHs hS
  generalize beginE ns is xs bs hs wish = be at *
  generalize checkE ns is xs bs hs = ce at *
  generalize readyE ns is xs bs hs wish (zeroI ns) = re at *
  go_enter Tryz.func19, Tryz.ntmps19
  go_wp2_with fail
  refine (HK.out ()).mono ?_
  rintro e w1 ⟨p1, k1, l, rfl, hl1, hJ1, hb1⟩
  have HB1 := hide (bthen HB0.out hb1)
  have HX1 := hide (HBx.out.later hb1)
  have HL1 := hide hl1
  have hbox := HX1.out
  simp only [Box] at hbox
  obtain ⟨q0, q1, q2, q3, q4⟩ := hbox
  clear hb1 HB0 HBx hJ1 HK hl1
  by_cases hce : ce = 0
  · subst hce
    obtain ⟨⟨hl, _, _⟩, _, hps, _⟩ := HCZ.out rfl
    have HPI : Hid (∀ p ∈ is, 0 ≤ p.2 ∧ p.2 < (ns.length : Int)) := fun p hp => (pairE_zero (init_zero ((pairs_zero hps).1 p hp))).2.1
    have HRE := hide (HRB.out rfl)
    have HLl : Hid (l = sel (isK ns 2) ns.length) := by have := HL1.out; rw [if_pos rfl] at this; exact this
    rw [← HLl.out] at HZL
    have hll : l.length ≤ 80 := by rw [HLl.out]; omega
    clear HRB HCZ HBE hps HL1 HLl hsl2
    obtain ⟨CZ, hCZ, hmk⟩ := make_ints l.length (by omega)
    have HCZI := hide (hCZ w1.drew)
    have hbM : Below w1.heap.size w1 (w1.drew.alloc (.cells CZ 3)) := bal (Below.refl _ _).drew _
    clear hCZ
    go_wp2
    go_region_held3 (fun w' => w'.cell? ⟨w.heap.size, 0, none⟩ = some (.slice a0 ns.length c0) ∧ w'.cell? ⟨w.heap.size, 1, none⟩ = some (.slice a1 is.length c1) ∧ w'.cell? ⟨w.heap.size, 2, none⟩ = some (.slice a2 xs.length c2) ∧ w'.cell? ⟨w.heap.size, 3, none⟩ = some (.slice a3 bs.length c3) ∧ w'.cell? ⟨w.heap.size, 4, none⟩ = some (.slice a4 hs.length c4))
      (first | exact ⟨q0, q1, q2, q3, q4⟩ | exact ⟨cell_later hbM q0, cell_later hbM q1, cell_later hbM q2, cell_later hbM q3, cell_later hbM q4⟩ | exact ⟨cell_later hbV (cell_later hbM q0), cell_later hbV (cell_later hbM q1), cell_later hbV (cell_later hbM q2), cell_later hbV (cell_later hbM q3), cell_later hbV (cell_later hbM q4)⟩ | go_keep)
      ((go_at_call 36; refine (HVA.out _ _ (bthen HB1.out hbM) ⟨_, _, by rw [HZL.out, List.length_replicate], by rw [HZL.out]; exact irow_ints HCZI.out, by rw [HZL.out, List.length_replicate]; omega, by unfold maxLen; omega⟩ (by rw [HZL.out, List.length_replicate]; unfold maxLen; omega)).mono ?_; rintro e wV ⟨pV, kV, lV, rfl, hlV, hJV, hbV⟩; have HLV := hide hlV; have HJV := hide hJV; clear hlV hJV))
    have HB2 := hide (bthen (bthen HB1.out hbM) hbV)
    have z0 := cell_later hbV (cell_later hbM q0)
    have z1 := cell_later hbV (cell_later hbM q1)
    have z2 := cell_later hbV (cell_later hbM q2)
    have z3 := cell_later hbV (cell_later hbM q3)
    have z4 := cell_later hbV (cell_later hbM q4)
    clear hbM hbV q0 q1 q2 q3 q4 HCZI hmk HX1 HB1 HVA
    by_cases hre : re = 0
    · subst hre
      have HLv : Hid (lV = vals ns wish (zeroI ns) ns.length) := HLV.out.trans HV0.out
      have HLen : Hid (lV.length = ns.length) := by rw [HLv.out, vals_len]; rfl
      rw [← HLv.out] at HN0
      have HF := hide (fun _ : Unit => HFO.out hl HPI.out lV HLen.out pV kV wV HB2.out HJV.out)
      clear HFO
      go_wp2_with fail
      refine (HF.out ()).mono ?_
      rintro e w2 ⟨p2, k2, rfl, hJ2, hb2⟩
      go_wp2
      go_ret2
      exact ⟨p2, k2, followL ns is lV, by rw [← HRE.out]; rfl, by rw [← HRE.out]; exact HN0.out.symm, hJ2.mono HB2.out.size, bthen HB2.out hb2⟩
    · have hne : (re != 0) = true := by simp [hre]
      have HE := hide (HNE.out re hre)
      clear hre HFO
      go_wp2
      go_ret2
      exact ⟨none, 0, [], by rw [← HRE.out]; rfl, by rw [← HRE.out]; exact HE.out.symm, NL.nil _ _, HB2.out⟩
  · have hne : (ce != 0) = true := by simp [hce]
    have HE := hide (HBE.out hce)
    have HEn := hide hce
    clear hce HRB HCZ HBE HFO HVA
    go_wp2
    go_ret2
    exact ⟨none, 0, [], by rw [HE.out]; rfl, by rw [HNE.out _ (by rw [HE.out]; exact HEn.out)], NL.nil _ _, HB1.out⟩
end Go.Proofs.YtfobcnhibhbbaaaGreatDoor.Ev.Xp
