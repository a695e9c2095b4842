/- The plain text: a whole model is checked. -/
import Derived.Test.YtfobcnhibhbbaaaNlM
import Derived.Test.YtfobcnhibhbbaaaNg
import Derived.Deep.RegionLaw
namespace Go.Proofs.Ytfobcnhibhbbaaa
open Go.RowKit
set_option maxRecDepth 100000

theorem step_append_ints {ops : Array Oper} {o : Oper} {a : Act} {w : World} {K : Act → World → Prop} {Q : Exit → Act → World → Prop} {E : Prop}
    (hg : o.guard = none) (s x : Operand) (hop : o.op = Op.call { callee := Callee.builtin Builtin.append, args := #[s, x], argTypes := #[24, 24] })
    (base : Nat) (v : Value) (l0 : List Int) (hs : a.eval s = v) (hown : w.ownsRow base 3 1 v l0.length (l0.map (Value.int .i64))) (p : Option Addr) (c : Nat) (l : List Int) (hx : a.eval x = .slice p l.length c) (hI : IntsAt w p l) (hnil : p = none → c = 0)
    (hb : l0.length + l.length ≤ 1000) (hbase : base ≤ w.heap.size)
    (hK : ∀ v' w', w'.ownsRow base 3 1 v' (l0 ++ l).length ((l0 ++ l).map (Value.int .i64)) → w.grownBy w' v.ownBlock → K (a.put o.dst v') w') :
    if Region.wanted o (yielded ops a.tmps) = true then Oper.wp Try.prog o a w K Q else E := by
  obtain ⟨i0, hi, hz0, hz1, hz2⟩ := info_parts info3
  have hw : Region.wanted o (yielded ops a.tmps) = true := by simp [Region.wanted, hg]
  rw [if_pos hw]
  cases p with
  | none =>
    have h0 : l = [] := by
      cases l with
      | nil => rfl
      | cons a t => obtain ⟨b, off, h, _⟩ := hI (by simp); cases h
    subst h0
    obtain rfl := hnil rfl
    have hrun := run_append_owned_none (P := Try.prog) (w := w) base 24 o.type 3 i0 1 Try.underlying24 hi v l0.length _ hown
    unfold Oper.wp
    simp only [List.length_nil] at hx
    simp [execOp, hop, resolve, invoke, builtin, hs, hx, hrun, Result.andThen]
    exact hK v w (by simpa using hown) ⟨rfl, rfl, rfl, Nat.le_refl _, fun _ _ _ => rfl⟩
  | some ad =>
    refine wp_append_own w s x 24 hop base 3 i0 (.int .i64 0) 1 8 Try.underlying24 hi hz0 hz1 hz2 rfl (by decide) v l0.length _ hs hown ad l.length c (l.map (Value.int .i64)) hx (by simp) ?_ ?_ (by unfold maxLen; omega) (by omega) hbase (fun v' w' a b _ => hK v' w' (by simpa using a) b)
    · intro j u hj
      obtain ⟨hjl, hju⟩ := List.getElem?_eq_some_iff.1 hj
      have hjl' : j < l.length := by simpa using hjl
      obtain ⟨b, off, h, hc⟩ := hI (by omega)
      cases h
      rw [Addr.add_lit, hc j hjl', ← hju]
      simp
    · intro u hu
      obtain ⟨x, _, rfl⟩ := List.mem_map.1 hu
      rfl

theorem btw_isN (len : Nat) (s : Int) : btw s 0 ((len : Int) - 1) = isN len s := by
  rw [Bool.eq_iff_iff, btw_true, isN_true]
  omega

theorem betweenN_any (len : Nat) (s : Int) (w : World) : Calls Try.prog 21 #[.int .i64 s, .int .i64 0, .int .i64 ((len : Int) - 1)] w fun e w' => e = .returned (.bool (isN len s)) ∧ w' = w := by
  rw [← btw_isN]
  exact between_any s 0 ((len : Int) - 1) w

theorem pairE_bad {ns : List Nd} {s x : Int} (h : isN ns.length s = false ∨ kdOf ns s ≠ 3 ∨ isN ns.length x = false) : pairE ns s x = 5 := by
  unfold pairE; rw [if_pos h]
theorem nextE_bad {ns : List Nd} {s x : Int} (h : isN ns.length s = false ∨ kdOf ns s ≠ 3 ∨ isN ns.length x = false) : nextE ns (s, x) = 5 := pairE_bad h
theorem initE_bad {ns : List Nd} {s x : Int} (h : isN ns.length s = false ∨ kdOf ns s ≠ 3 ∨ isN ns.length x = false) : initE ns (s, x) = 5 := by
  unfold initE; simp only; rw [pairE_bad h, if_pos (by omega)]

theorem pairs_hit1 {ns : List Nd} {is xs : List (Int × Int)} {e : Int} (h : firstE (initE ns) is = e) (he : e ≠ 0) : pairsE ns is xs = e := by
  unfold pairsE; rw [h, if_pos he]
theorem firstE_all {f : Int × Int → Int} {l : List (Int × Int)} (h : ∀ p ∈ l, f p = 0) : firstE f l = 0 := firstE_miss f l (fun _ hi => h _ (List.getElem_mem hi))
theorem pairs_hit2 {ns : List Nd} {is xs : List (Int × Int)} {e : Int} (h0 : ∀ p ∈ is, initE ns p = 0) (h : firstE (nextE ns) xs = e) (he : e ≠ 0) : pairsE ns is xs = e := by
  unfold pairsE; rw [firstE_all h0, if_neg (by simp), h, if_pos he]
theorem pairs_dup {ns : List Nd} {is xs : List (Int × Int)} (h0 : ∀ p ∈ is, initE ns p = 0) (h : ∀ p ∈ xs, nextE ns p = 0) : pairsE ns is xs = if dup (fsts is) || dup (fsts xs) then 6 else 0 := by
  unfold pairsE; rw [firstE_all h0, if_neg (by simp), firstE_all h, if_neg (by simp)]

theorem dup_step {l : List (Int × Int)} {k : Nat} (hk : k < l.length) (hd : dup (fsts (l.take k)) = false) (h : ∀ i (hi : i < l.length), i < k → l[i].1 ≠ l[k].1) : dup (fsts (l.take (k + 1))) = false := by
  rw [fsts_take l k hk, dup_snoc, hd, Bool.false_or]
  cases hc : (fsts (l.take k)).contains l[k].1
  · rfl
  · exfalso
    simp only [fsts, List.contains_iff_mem, List.mem_map] at hc
    obtain ⟨p, hp, he⟩ := hc
    obtain ⟨i, hi, rfl⟩ := List.getElem_of_mem hp
    rw [List.length_take] at hi
    rw [List.getElem_take] at he
    exact h i (by omega) (by omega) he

theorem dup_hit {l : List (Int × Int)} {k j : Nat} (hk : k < l.length) (hj : j < k) (h : l[k].1 = l[j].1) : dup (fsts l) = true := by
  have h1 : dup (fsts (l.take (k + 1))) = true := by
    rw [fsts_take l k hk, dup_snoc]
    have : (fsts (l.take k)).contains l[k].1 = true := by
      simp only [fsts, List.contains_iff_mem, List.mem_map]
      exact ⟨l[j], List.mem_take_iff_getElem.2 ⟨j, by omega, rfl⟩, h.symm⟩
    rw [this, Bool.or_true]
  have h2 : fsts l = fsts (l.take (k + 1)) ++ fsts (l.drop (k + 1)) := by
    unfold fsts; rw [← List.map_append, List.take_append_drop]
  rw [h2]
  exact dup_mono _ _ h1

/-- What is told once pairs have passed. -/
theorem marks_plain {ns : List Nd} {xs : List (Int × Int)} {bs hs : List Int} (hx : ∀ p ∈ xs, pairE ns p.1 p.2 = 0) (hd : dup (fsts xs) = false) :
    marksE ns xs bs hs = if xs.length ≠ (sel (isK ns 3) ns.length).length then 5 else if (bs ++ hs).any (fun x => !isN ns.length x) then 5 else if (bs ++ hs).any (fun x => wdOf ns x != 1) then 1 else 0 := by
  unfold marksE
  rw [← List.any_append, ← List.any_append]
  by_cases h : (sel (isK ns 3) ns.length).any (fun s => !hasSt s xs) = false
  · rw [h, if_neg (by simp), if_neg (show ¬ (xs.length ≠ (sel (isK ns 3) ns.length).length) from fun e => e ((pigeon hx hd).2 h))]
  · rw [if_pos (by simpa using h), if_pos (fun e => h ((pigeon hx hd).1 e))]

set_option maxRecDepth 100000 in
set_option maxHeartbeats 8000000 in
theorem checkModelR_any (a0 a1 a2 a3 a4 : Option Addr) (c0 c1 c2 c3 c4 : Nat) (ns : List Nd) (is xs : List (Int × Int)) (bs hs : List Int) (hln : ns.length ≤ maxLen) (hli : is.length ≤ 8796093022208) (hlx : xs.length ≤ 8796093022208) (hlb : bs.length ≤ maxLen) (hlh : hs.length ≤ maxLen) (hn3 : a3 = none → c3 = 0) (hn4 : a4 = none → c4 = 0) (w : World)
    (hN : NodesAt w a0 ns) (hI : PairsAt w a1 is) (hX : PairsAt w a2 xs) (hBs : IntsAt w a3 bs) (hHs : IntsAt w a4 hs) :
    Calls Try.prog 6 #[Mv.val ⟨a0, c0, a1, is.length, c1, a2, xs.length, c2, a3, bs.length, c3, a4, hs.length, c4⟩ ns.length] w fun e w' => e = .returned (.int .i64 (checkE ns is xs bs hs)) ∧ Below w.heap.size w w' := by
  unfold maxLen at hln hlb hlh
  by_cases hm : 80 < ns.length ∨ 8 < bs.length ∨ 8 < hs.length
  · have HE : Hid (checkE ns is xs bs hs = 2) := by unfold checkE; rw [if_pos hm]; rfl
    by_cases h1 : 80 < ns.length
    · clear hm
      go_enter Try.func6, Try.ntmps6
      go_wp2
      go_ret
      exact ⟨ret_int HE.out.symm, bal (Below.refl _ _) _⟩
    · by_cases h2 : 8 < bs.length
      · clear hm
        go_enter Try.func6, Try.ntmps6
        go_wp2
        go_ret
        exact ⟨ret_int HE.out.symm, bal (Below.refl _ _) _⟩
      · have h3 : 8 < hs.length := by omega
        clear hm
        go_enter Try.func6, Try.ntmps6
        go_wp2
        go_ret
        exact ⟨ret_int HE.out.symm, bal (Below.refl _ _) _⟩
  · have h1 : ns.length ≤ 80 := by omega
    have h2 : bs.length ≤ 8 := by omega
    have h3 : hs.length ≤ 8 := by omega
    have HC : Hid (checkE ns is xs bs hs = if firstN (nodeAtE ns) ns.length ≠ 0 then firstN (nodeAtE ns) ns.length else if 6 < sumW ns (sel (isK ns 2) ns.length) ∨ 10 < sumW ns (sel (isK ns 3) ns.length) then 2 else if pairsE ns is xs ≠ 0 then pairsE ns is xs else marksE ns xs bs hs) := by
      unfold checkE; rw [if_neg hm]; rfl
    have HBx := hide (Box.new w ⟨a0, c0, a1, is.length, c1, a2, xs.length, c2, a3, bs.length, c3, a4, hs.length, c4⟩ ns.length)
    have hb0 : Below w.heap.size w (w.alloc (.cells (Mv.cells ⟨a0, c0, a1, is.length, c1, a2, xs.length, c2, a3, bs.length, c3, a4, hs.length, c4⟩ ns.length) 26)) := bal (Below.refl _ _) _
    have HB0 := hide hb0
    have HN := hide hN
    have HI := hide hI
    have HX := hide hX
    have HBs := hide hBs
    have HHs := hide hHs
    clear hm hln hlb hlh hb0 hN hI hX hBs hHs
    go_enter Try.func6, Try.ntmps6
    go_wp2
    go_loopw [3] (fun i wr => ∃ k : Nat, k ≤ ns.length ∧ i = .int .i64 k ∧ Below w.heap.size w wr ∧ Hid (Box wr w.heap.size ⟨a0, c0, a1, is.length, c1, a2, xs.length, c2, a3, bs.length, c3, a4, hs.length, c4⟩ ns.length) ∧ Hid (∀ i, i < k → nodeAtE ns i = 0)) (fun i _ => ns.length - (intOf i).toNat)
    case atStart => exact ⟨0, Nat.zero_le _, rfl, HB0.out, HBx.out, fun i hi => by omega⟩
    case round =>
      obtain ⟨k, hk, rfl, hbw, hbx, hz⟩ := hrel
      have hbox := hbx.out
      simp only [Box] at hbox
      obtain ⟨q0, q1, q2, q3, q4⟩ := hbox
      by_cases hlt : k < ns.length
      · have hcall := checkNodeR_any a0 c0 ns h1 k hlt wr (HN.out.later hbw)
        rw [← nodeAtE_at hlt] at hcall
        have HCC := hide (fun _ : Unit => hcall)
        have HZ : Hid (nodeAtE ns k = 0 → ∀ i, i < k + 1 → nodeAtE ns i = 0) := by
          intro h i hi
          rcases Nat.lt_succ_iff_lt_or_eq.1 hi with h1 | rfl
          · exact hz.out i h1
          · exact h
        have HH : Hid (nodeAtE ns k ≠ 0 → firstN (nodeAtE ns) ns.length = nodeAtE ns k) := fun h => firstN_hit hlt hz.out h
        clear hcall hz
        go_wp2_with fail
        refine (HCC.out ()).mono ?_
        rintro e w2 ⟨rfl, hb2⟩
        have hbw2 := bthen hbw hb2
        have HBB := hide (hbx.out.later hb2)
        by_cases hn : nodeAtE ns k = 0
        · have HZ2 := hide (HZ.out hn)
          rw [hn]
          clear hn HZ HH
          go_wp2
          go_roundw
          case rel => exact ⟨k + 1, by omega, by go_num, hbw2, HBB, HZ2⟩
          case measure => simp [intOf]; omega
        · have HE : Hid (checkE ns is xs bs hs = nodeAtE ns k) := by
            rw [HC.out, HH.out hn, if_pos hn]; rfl
          have hn' : (nodeAtE ns k != 0) = true := by simp [hn]
          clear hn HZ HH
          go_wp2
          go_ret
          exact ⟨ret_int HE.out.symm, hbw2⟩
      · have HF : Hid (firstN (nodeAtE ns) ns.length = 0) := firstN_zero.2 (fun i hi => hz.out i (by omega))
        obtain ⟨hW, hO⟩ := nodes_ok HF.out
        have HW := hide hW
        have HO := hide hO
        clear hz hW hO
        have HC2 : Hid (checkE ns is xs bs hs = if 6 < sumW ns (sel (isK ns 2) ns.length) ∨ 10 < sumW ns (sel (isK ns 3) ns.length) then 2 else if pairsE ns is xs ≠ 0 then pairsE ns is xs else marksE ns xs bs hs) := by
          rw [HC.out, HF.out, if_neg (by simp)]; rfl
        clear HC
        go_wp2_with fail
        refine (bitsR_any ⟨a0, c0, a1, is.length, c1, a2, xs.length, c2, a3, bs.length, c3, a4, hs.length, c4⟩ ns h1 HW.out 2 _ (HN.out.later hbw)).mono ?_
        rintro e w2 ⟨rfl, hb2⟩
        have hbw2 := bthen hbw hb2
        have HB2 := hide (hbx.out.later hb2)
        have hbox2 := HB2.out
        simp only [Box] at hbox2
        obtain ⟨r0, r1, r2, r3, r4⟩ := hbox2
        clear q0 q1 q2 q3 q4 hb2
        by_cases hs1 : 6 < sumW ns (sel (isK ns 2) ns.length)
        · have HE : Hid (checkE ns is xs bs hs = 2) := by rw [HC2.out, if_pos (Or.inl hs1)]; rfl
          clear HC2
          go_wp2
          go_ret
          exact ⟨ret_int HE.out.symm, hbw2⟩
        · go_wp2_with fail
          refine (bitsR_any ⟨a0, c0, a1, is.length, c1, a2, xs.length, c2, a3, bs.length, c3, a4, hs.length, c4⟩ ns h1 HW.out 3 _ (HN.out.later hbw2)).mono ?_
          rintro e w3 ⟨rfl, hb3⟩
          have hbw3 := bthen hbw2 hb3
          have HB3 := hide (HB2.out.later hb3)
          have hbox3 := HB3.out
          simp only [Box] at hbox3
          obtain ⟨s0, s1, s2, s3, s4⟩ := hbox3
          clear r0 r1 r2 r3 r4 hb3
          by_cases hs2 : 10 < sumW ns (sel (isK ns 3) ns.length)
          · have HE : Hid (checkE ns is xs bs hs = 2) := by rw [HC2.out, if_pos (Or.inr hs2)]; rfl
            clear HC2
            go_wp2
            go_ret
            exact ⟨ret_int HE.out.symm, hbw3⟩
          · have HC3 : Hid (checkE ns is xs bs hs = if pairsE ns is xs ≠ 0 then pairsE ns is xs else marksE ns xs bs hs) := by
              rw [HC2.out, if_neg (by omega)]; rfl
            clear HC2
            go_wp2_with fail
            refine (hangsR_any ⟨a0, c0, a1, is.length, c1, a2, xs.length, c2, a3, bs.length, c3, a4, hs.length, c4⟩ ns h1 HO.out _ (HN.out.later hbw3)).mono ?_
            rintro e w4 ⟨pf, cf, rfl, hF, hb4⟩
            have HBw4 := hide (bthen hbw3 hb4)
            have HBx4 := hide (HB3.out.later hb4)
            have HF4 := hide hF
            clear hb4 hF s0 s1 s2 s3 s4 HB3 HB2 hbw3 hbw2 hbw hbx hlt hk hs1 hs2 HB0 HBx HW HO HF
            go_wp2
            go_loopw [6] (fun i wr => ∃ n : Nat, n ≤ 2 ∧ i = .int .i64 n ∧ Below w.heap.size w wr ∧ Hid (Box wr w.heap.size ⟨a0, c0, a1, is.length, c1, a2, xs.length, c2, a3, bs.length, c3, a4, hs.length, c4⟩ ns.length) ∧ Hid (BoolsAt wr pf (hgs ns ns.length)) ∧ Hid (0 < n → ∀ p ∈ is, initE ns p = 0) ∧ Hid (1 < n → ∀ p ∈ xs, nextE ns p = 0)) (fun i _ => 2 - (intOf i).toNat)
            case atStart => exact ⟨0, by omega, rfl, HBw4.out, HBx4.out, HF4.out, fun h => by omega, fun h => by omega⟩
            case round =>
            obtain ⟨n, hn, rfl, hbw, hbx, hbf, hi0, hx0⟩ := hrel
            have hbox := hbx.out
            simp only [Box] at hbox
            obtain ⟨q0, q1, q2, q3, q4⟩ := hbox
            match n, hn with
            | 0, _ =>
              clear hi0 hx0
              go_wp2
              go_loopw [8] (fun i wr => ∃ k : Nat, k ≤ is.length ∧ i = .int .i64 k ∧ Below w.heap.size w wr ∧ Hid (Box wr w.heap.size ⟨a0, c0, a1, is.length, c1, a2, xs.length, c2, a3, bs.length, c3, a4, hs.length, c4⟩ ns.length) ∧ Hid (BoolsAt wr pf (hgs ns ns.length)) ∧ Hid (∀ i (hi : i < is.length), i < k → initE ns is[i] = 0)) (fun i _ => is.length - (intOf i).toNat)
              case atStart => exact ⟨0, Nat.zero_le _, rfl, hbw, hbx, hbf, fun i hi h => by omega⟩
              case round =>
                obtain ⟨k, hk, rfl, hbw, hbx, hbf, hz⟩ := hrel
                have q0 := hbx.out.1
                by_cases hlt : k < is.length
                · obtain ⟨b, off, rfl, hc⟩ := (HI.out.later hbw) (by omega)
                  obtain ⟨d0, d1⟩ := hc k hlt
                  have hkl : (k : Int) < (is.length : Int) := by omega
                  have HHit : Hid (initE ns is[k] ≠ 0 → checkE ns is xs bs hs = initE ns is[k]) := by
                    intro h
                    rw [HC3.out, pairs_hit1 (firstE_hit (initE ns) is k hlt hz.out h) h, if_pos h]
                  have HNx : Hid (initE ns is[k] = 0 → ∀ i (hi : i < is.length), i < k + 1 → initE ns is[i] = 0) := fun h => step_zero hz.out hlt h
                  clear hc hz
                  generalize is[k] = pr at *
                  obtain ⟨s, x⟩ := pr
                  simp only at d0 d1
                  have hba : Below wr.heap.size wr (wr.alloc (.cells #[.int .i64 s, .int .i64 x] 62)) := bal (Below.refl _ _) _
                  have p0 : (wr.alloc (.cells #[.int .i64 s, .int .i64 x] 62)).cell? ⟨wr.heap.size, 0, none⟩ = some (.int .i64 s) := by simp [go_sem]
                  have p1 : (wr.alloc (.cells #[.int .i64 s, .int .i64 x] 62)).cell? ⟨wr.heap.size, 1, none⟩ = some (.int .i64 x) := by simp [go_sem]
                  have r0 := cell_later hba q0
                  have HBW := hide (bthen hbw hba)
                  have HBX := hide (hbx.out.later hba)
                  have HBF := hide (hbf.out.later hba)
                  go_wp2_with fail
                  clear hba q0 hbw hbx hbf d0 d1
                  generalize wr.alloc (.cells #[.int .i64 s, .int .i64 x] 62) = wa at *
                  generalize wr.heap.size = NB at *
                  refine (betweenN_any ns.length s _).mono ?_
                  rintro e wb ⟨rfl, rfl⟩
                  cases hsb : isN ns.length s
                  · have HE : Hid (checkE ns is xs bs hs = 5) := by
                      rw [HHit.out (by rw [initE_bad (.inl hsb)]; omega), initE_bad (.inl hsb)]; rfl
                    go_wp2
                    go_ret
                    exact ⟨ret_int HE.out.symm, HBW.out⟩
                  · obtain ⟨s0, s1⟩ := isN_true.1 hsb
                    go_wp2_with fail
                    refine (betweenN_any ns.length x _).mono ?_
                    rintro e wc ⟨rfl, rfl⟩
                    cases hxb : isN ns.length x
                    · have HE : Hid (checkE ns is xs bs hs = 5) := by
                        rw [HHit.out (by rw [initE_bad (.inr (.inr hxb))]; omega), initE_bad (.inr (.inr hxb))]; rfl
                      go_wp2
                      go_ret
                      exact ⟨ret_int HE.out.symm, HBW.out⟩
                    · obtain ⟨x0, x1⟩ := isN_true.1 hxb
                      obtain ⟨nb, noff, rfl, hnc⟩ := (HN.out.later HBW.out) (by omega)
                      obtain ⟨k1, k2⟩ := kd_wd hnc s s0 s1
                      obtain ⟨k3, k4⟩ := kd_wd hnc x x0 x1
                      clear hnc
                      by_cases h3 : kdOf ns s = 3
                      · have h3' : (kdOf ns s != 3) = false := by simp [h3]
                        have H3 := hide h3
                        clear h3
                        by_cases he : wdOf ns s = wdOf ns x
                        · have he' : (wdOf ns s != wdOf ns x) = false := by simp [he]
                          have HP0 : Hid (pairE ns s x = 0) := by unfold pairE; rw [if_neg (by simp [hsb, hxb, H3.out]), if_neg (by simp [he])]; rfl
                          clear he
                          obtain ⟨fb, rfl, hfc⟩ := HBF.out (by rw [hgs_len]; omega)
                          have fc := getD_cell hfc x x0 (by rw [hgs_len]; exact x1)
                          clear hfc
                          cases hg : (hgs ns ns.length).getD x.toNat false
                          · rw [hg] at fc
                            have HE0 : Hid (initE ns (s, x) = 0) := by unfold initE; rw [if_neg (by simp [HP0.out]), hg]; rfl
                            have HN2 := hide (HNx.out HE0.out)
                            clear hg HHit HNx
                            go_wp2
                            go_quiet (fail)
                            go_wp2
                            go_roundw
                            case rel => first | exact ⟨k + 1, by omega, by go_num, below_drewN HBW.out _, HBX.out.later (below_drewN (Below.refl _ _) _), HBF.out.later (below_drewN (Below.refl _ _) _), HN2⟩ | ((repeat apply Exists.intro); exact ⟨⟨k + 1, by omega, by go_num, below_drewN HBW.out _, HBX.out.later (below_drewN (Below.refl _ _) _), HBF.out.later (below_drewN (Below.refl _ _) _), HN2⟩, rfl⟩)
                            case measure => simp [intOf]; omega
                          · rw [hg] at fc
                            have HE0 : Hid (initE ns (s, x) = 4) := by unfold initE; rw [if_neg (by simp [HP0.out]), hg]; rfl
                            have HE : Hid (checkE ns is xs bs hs = 4) := by rw [HHit.out (by rw [HE0.out]; omega), HE0.out]; rfl
                            clear hg HHit HNx
                            go_wp2
                            go_quiet (fail)
                            go_wp2
                            go_ret
                            exact ⟨ret_int HE.out.symm, below_drewN HBW.out _⟩
                        · have he' : (wdOf ns s != wdOf ns x) = true := by simp [he]
                          have HP1 : Hid (pairE ns s x = 1) := by unfold pairE; rw [if_neg (by simp [hsb, hxb, H3.out]), if_pos he]; rfl
                          have HE0 : Hid (initE ns (s, x) = 1) := by unfold initE; rw [if_pos (by rw [HP1.out]; omega)]; exact HP1.out
                          have HE : Hid (checkE ns is xs bs hs = 1) := by rw [HHit.out (by rw [HE0.out]; omega), HE0.out]; rfl
                          clear he HHit HNx
                          go_wp2
                          go_quiet (fail)
                          go_wp2
                          go_ret
                          exact ⟨ret_int HE.out.symm, below_drewN HBW.out _⟩
                      · have h3' : (kdOf ns s != 3) = true := by simp [h3]
                        have HE : Hid (checkE ns is xs bs hs = 5) := by
                          rw [HHit.out (by rw [initE_bad (.inr (.inl h3))]; omega), initE_bad (.inr (.inl h3))]; rfl
                        clear h3 HHit HNx
                        go_wp2
                        go_ret
                        exact ⟨ret_int HE.out.symm, HBW.out⟩
                · obtain rfl : k = is.length := by omega
                  have HAll : Hid (∀ p ∈ is, initE ns p = 0) := fun p hp => by
                    obtain ⟨i, hi, rfl⟩ := List.getElem_of_mem hp
                    exact hz.out i hi hi
                  clear hz
                  go_wp2
                  go_roundw
                  case rel => exact ⟨1, by omega, by go_num, hbw, hbx, hbf, fun _ => HAll.out, fun h => by omega⟩
                  case measure => simp [intOf]
            | 1, _ =>
              have HI0 := hide (hi0.out (by omega))
              clear hi0 hx0
              go_wp2
              go_loopw [8] (fun i wr => ∃ k : Nat, k ≤ xs.length ∧ i = .int .i64 k ∧ Below w.heap.size w wr ∧ Hid (Box wr w.heap.size ⟨a0, c0, a1, is.length, c1, a2, xs.length, c2, a3, bs.length, c3, a4, hs.length, c4⟩ ns.length) ∧ Hid (BoolsAt wr pf (hgs ns ns.length)) ∧ Hid (∀ i (hi : i < xs.length), i < k → nextE ns xs[i] = 0)) (fun i _ => xs.length - (intOf i).toNat)
              case atStart => exact ⟨0, Nat.zero_le _, rfl, hbw, hbx, hbf, fun i hi h => by omega⟩
              case round =>
                obtain ⟨k, hk, rfl, hbw, hbx, hbf, hz⟩ := hrel
                have q0 := hbx.out.1
                by_cases hlt : k < xs.length
                · obtain ⟨b, off, rfl, hc⟩ := (HX.out.later hbw) (by omega)
                  obtain ⟨d0, d1⟩ := hc k hlt
                  have hkl : (k : Int) < (xs.length : Int) := by omega
                  have HHit : Hid (nextE ns xs[k] ≠ 0 → checkE ns is xs bs hs = nextE ns xs[k]) := by
                    intro h
                    rw [HC3.out, pairs_hit2 HI0.out (firstE_hit (nextE ns) xs k hlt hz.out h) h, if_pos h]
                  have HNx : Hid (nextE ns xs[k] = 0 → ∀ i (hi : i < xs.length), i < k + 1 → nextE ns xs[i] = 0) := fun h => step_zero hz.out hlt h
                  clear hc hz
                  generalize xs[k] = pr at *
                  obtain ⟨s, x⟩ := pr
                  simp only at d0 d1
                  have hba : Below wr.heap.size wr (wr.alloc (.cells #[.int .i64 s, .int .i64 x] 62)) := bal (Below.refl _ _) _
                  have p0 : (wr.alloc (.cells #[.int .i64 s, .int .i64 x] 62)).cell? ⟨wr.heap.size, 0, none⟩ = some (.int .i64 s) := by simp [go_sem]
                  have p1 : (wr.alloc (.cells #[.int .i64 s, .int .i64 x] 62)).cell? ⟨wr.heap.size, 1, none⟩ = some (.int .i64 x) := by simp [go_sem]
                  have r0 := cell_later hba q0
                  have HBW := hide (bthen hbw hba)
                  have HBX := hide (hbx.out.later hba)
                  have HBF := hide (hbf.out.later hba)
                  go_wp2_with fail
                  clear hba q0 hbw hbx hbf d0 d1
                  generalize wr.alloc (.cells #[.int .i64 s, .int .i64 x] 62) = wa at *
                  generalize wr.heap.size = NB at *
                  refine (betweenN_any ns.length s _).mono ?_
                  rintro e wb ⟨rfl, rfl⟩
                  cases hsb : isN ns.length s
                  · have HE : Hid (checkE ns is xs bs hs = 5) := by
                      rw [HHit.out (by rw [nextE_bad (.inl hsb)]; omega), nextE_bad (.inl hsb)]; rfl
                    go_wp2
                    go_ret
                    exact ⟨ret_int HE.out.symm, HBW.out⟩
                  · obtain ⟨s0, s1⟩ := isN_true.1 hsb
                    go_wp2_with fail
                    refine (betweenN_any ns.length x _).mono ?_
                    rintro e wc ⟨rfl, rfl⟩
                    cases hxb : isN ns.length x
                    · have HE : Hid (checkE ns is xs bs hs = 5) := by
                        rw [HHit.out (by rw [nextE_bad (.inr (.inr hxb))]; omega), nextE_bad (.inr (.inr hxb))]; rfl
                      go_wp2
                      go_ret
                      exact ⟨ret_int HE.out.symm, HBW.out⟩
                    · obtain ⟨x0, x1⟩ := isN_true.1 hxb
                      obtain ⟨nb, noff, rfl, hnc⟩ := (HN.out.later HBW.out) (by omega)
                      obtain ⟨k1, k2⟩ := kd_wd hnc s s0 s1
                      obtain ⟨k3, k4⟩ := kd_wd hnc x x0 x1
                      clear hnc
                      by_cases h3 : kdOf ns s = 3
                      · have h3' : (kdOf ns s != 3) = false := by simp [h3]
                        have H3 := hide h3
                        clear h3
                        by_cases he : wdOf ns s = wdOf ns x
                        · have he' : (wdOf ns s != wdOf ns x) = false := by simp [he]
                          have HP0 : Hid (pairE ns s x = 0) := by unfold pairE; rw [if_neg (by simp [hsb, hxb, H3.out]), if_neg (by simp [he])]; rfl
                          clear he
                          have HN2 := hide (HNx.out HP0.out)
                          clear HHit HNx
                          go_wp2
                          go_quiet (fail)
                          go_wp2
                          go_roundw
                          case rel => first | exact ⟨k + 1, by omega, by go_num, below_drewN HBW.out _, HBX.out.later (below_drewN (Below.refl _ _) _), HBF.out.later (below_drewN (Below.refl _ _) _), HN2⟩ | ((repeat apply Exists.intro); exact ⟨⟨k + 1, by omega, by go_num, below_drewN HBW.out _, HBX.out.later (below_drewN (Below.refl _ _) _), HBF.out.later (below_drewN (Below.refl _ _) _), HN2⟩, rfl⟩)
                          case measure => simp [intOf]; omega
                        · have he' : (wdOf ns s != wdOf ns x) = true := by simp [he]
                          have HP1 : Hid (pairE ns s x = 1) := by unfold pairE; rw [if_neg (by simp [hsb, hxb, H3.out]), if_pos he]; rfl
                          have HE0 : Hid (nextE ns (s, x) = 1) := by exact HP1.out
                          have HE : Hid (checkE ns is xs bs hs = 1) := by rw [HHit.out (by rw [HE0.out]; omega), HE0.out]; rfl
                          clear he HHit HNx
                          go_wp2
                          go_quiet (fail)
                          go_wp2
                          go_ret
                          exact ⟨ret_int HE.out.symm, below_drewN HBW.out _⟩
                      · have h3' : (kdOf ns s != 3) = true := by simp [h3]
                        have HE : Hid (checkE ns is xs bs hs = 5) := by
                          rw [HHit.out (by rw [nextE_bad (.inr (.inl h3))]; omega), nextE_bad (.inr (.inl h3))]; rfl
                        clear h3 HHit HNx
                        go_wp2
                        go_ret
                        exact ⟨ret_int HE.out.symm, HBW.out⟩
                · obtain rfl : k = xs.length := by omega
                  have HAll : Hid (∀ p ∈ xs, nextE ns p = 0) := fun p hp => by
                    obtain ⟨i, hi, rfl⟩ := List.getElem_of_mem hp
                    exact hz.out i hi hi
                  clear hz
                  go_wp2
                  go_roundw
                  case rel => exact ⟨2, by omega, by go_num, hbw, hbx, hbf, fun _ => HI0.out, fun _ => HAll.out⟩
                  case measure => simp [intOf]
            | 2, _ =>
              have HI0 := hide (hi0.out (by omega))
              have HX0 := hide (hx0.out (by omega))
              have HC4 : Hid (checkE ns is xs bs hs = if dup (fsts is) || dup (fsts xs) then 6 else marksE ns xs bs hs) := by
                rw [HC3.out, pairs_dup HI0.out HX0.out]
                cases dup (fsts is) || dup (fsts xs)
                · rw [if_neg (by simp), if_neg (by simp)]; simp [Hid]
                · rw [if_pos (by simp)]; rfl
              clear hi0 hx0 hbf HC3
              go_wp2
              go_loopw [10] (fun i wr => ∃ n : Nat, n ≤ 2 ∧ i = .int .i64 n ∧ Below w.heap.size w wr ∧ Hid (Box wr w.heap.size ⟨a0, c0, a1, is.length, c1, a2, xs.length, c2, a3, bs.length, c3, a4, hs.length, c4⟩ ns.length) ∧ Hid (0 < n → dup (fsts is) = false) ∧ Hid (1 < n → dup (fsts xs) = false)) (fun i _ => 2 - (intOf i).toNat)
              case atStart => exact ⟨0, by omega, rfl, hbw, hbx, fun h => by omega, fun h => by omega⟩
              case round =>
              obtain ⟨n, hn, rfl, hbw, hbx, hd0, hd1⟩ := hrel
              clear q0 q1 q2 q3 q4
              have hbox := hbx.out
              simp only [Box] at hbox
              obtain ⟨q0, q1, q2, q3, q4⟩ := hbox
              match n, hn with
              | 0, _ =>
                clear hd0 hd1
                go_wp2
                go_loopw [12] (fun i wr => ∃ k : Nat, k ≤ is.length ∧ i = .int .i64 k ∧ Below w.heap.size w wr ∧ Hid (Box wr w.heap.size ⟨a0, c0, a1, is.length, c1, a2, xs.length, c2, a3, bs.length, c3, a4, hs.length, c4⟩ ns.length) ∧ Hid (dup (fsts (is.take k)) = false)) (fun i _ => is.length - (intOf i).toNat)
                case atStart => exact ⟨0, Nat.zero_le _, rfl, hbw, hbx, rfl⟩
                case round =>
                  obtain ⟨k, hk, rfl, hbw, hbx, hdu⟩ := hrel
                  by_cases hlt : k < is.length
                  · go_wp2
                    go_loopw [13] (fun i wr => ∃ j : Nat, j ≤ k ∧ i = .int .i64 j ∧ Below w.heap.size w wr ∧ Hid (Box wr w.heap.size ⟨a0, c0, a1, is.length, c1, a2, xs.length, c2, a3, bs.length, c3, a4, hs.length, c4⟩ ns.length) ∧ Hid (∀ i (hi : i < is.length), i < j → is[i].1 ≠ is[k].1)) (fun i _ => k - (intOf i).toNat)
                    case atStart => exact ⟨0, Nat.zero_le _, rfl, hbw, hbx, fun i hi h => by omega⟩
                    case round =>
                      obtain ⟨j, hj, rfl, hbw, hbx, hz⟩ := hrel
                      by_cases hjk : j < k
                      · obtain ⟨b, off, rfl, hc⟩ := (HI.out.later hbw) (by omega)
                        have d0 := (hc k hlt).1
                        have d1 := (hc j (by omega)).1
                        have hkl : (k : Int) < (is.length : Int) := by omega
                        have hjl : (j : Int) < (is.length : Int) := by omega
                        have HD : Hid (is[k].1 = is[j].1 → dup (fsts is) = true) := fun h => dup_hit hlt hjk h
                        have HZ : Hid (is[k].1 ≠ is[j].1 → ∀ i (hi : i < is.length), i < j + 1 → is[i].1 ≠ is[k].1) := by
                          intro h i hi hij
                          rcases Nat.lt_succ_iff_lt_or_eq.1 hij with h1 | rfl
                          · exact hz.out i hi h1
                          · exact fun e => h e.symm
                        clear hc hz
                        generalize is[k].1 = x at *
                        generalize is[j].1 = y at *
                        by_cases hxy : x = y
                        · have e1 : (x == y) = true := by simp [hxy]
                          have HE : Hid (checkE ns is xs bs hs = 6) := by rw [HC4.out]; rw [HD.out hxy, Bool.true_or]; rfl
                          clear hxy HD HZ
                          go_wp2
                          go_quiet (fail)
                          go_wp2
                          go_ret
                          exact ⟨ret_int HE.out.symm, below_drewN hbw _⟩
                        · have e1 : (x == y) = false := by simp [hxy]
                          have HZ2 := hide (HZ.out hxy)
                          clear hxy HD HZ
                          go_wp2
                          go_quiet (fail)
                          go_wp2
                          go_roundw
                          case rel => exact ⟨j + 1, by omega, by go_num, below_drewN hbw _, hbx.out.later (below_drewN (Below.refl _ _) _), HZ2⟩
                          case measure => simp [intOf]; omega
                      · obtain rfl : j = k := by omega
                        have HD2 : Hid (dup (fsts (is.take (j + 1))) = false) := dup_step hlt hdu.out hz.out
                        clear hz hdu
                        go_wp2
                        go_roundw
                        case rel => exact ⟨j + 1, by omega, by go_num, hbw, hbx, HD2⟩
                        case measure => simp [intOf]; omega
                  · obtain rfl : k = is.length := by omega
                    have HDF : Hid (dup (fsts is) = false) := by have := hdu.out; rw [List.take_length] at this; exact this
                    clear hdu
                    go_wp2
                    go_roundw
                    case rel => exact ⟨1, by omega, by go_num, hbw, hbx, fun _ => HDF.out, fun h => by omega⟩
                    case measure => simp [intOf]
              | 1, _ =>
                have HD0 := hide (hd0.out (by omega))
                clear hd0 hd1
                go_wp2
                go_loopw [12] (fun i wr => ∃ k : Nat, k ≤ xs.length ∧ i = .int .i64 k ∧ Below w.heap.size w wr ∧ Hid (Box wr w.heap.size ⟨a0, c0, a1, is.length, c1, a2, xs.length, c2, a3, bs.length, c3, a4, hs.length, c4⟩ ns.length) ∧ Hid (dup (fsts (xs.take k)) = false)) (fun i _ => xs.length - (intOf i).toNat)
                case atStart => exact ⟨0, Nat.zero_le _, rfl, hbw, hbx, rfl⟩
                case round =>
                  obtain ⟨k, hk, rfl, hbw, hbx, hdu⟩ := hrel
                  by_cases hlt : k < xs.length
                  · go_wp2
                    go_loopw [13] (fun i wr => ∃ j : Nat, j ≤ k ∧ i = .int .i64 j ∧ Below w.heap.size w wr ∧ Hid (Box wr w.heap.size ⟨a0, c0, a1, is.length, c1, a2, xs.length, c2, a3, bs.length, c3, a4, hs.length, c4⟩ ns.length) ∧ Hid (∀ i (hi : i < xs.length), i < j → xs[i].1 ≠ xs[k].1)) (fun i _ => k - (intOf i).toNat)
                    case atStart => exact ⟨0, Nat.zero_le _, rfl, hbw, hbx, fun i hi h => by omega⟩
                    case round =>
                      obtain ⟨j, hj, rfl, hbw, hbx, hz⟩ := hrel
                      by_cases hjk : j < k
                      · obtain ⟨b, off, rfl, hc⟩ := (HX.out.later hbw) (by omega)
                        have d0 := (hc k hlt).1
                        have d1 := (hc j (by omega)).1
                        have hkl : (k : Int) < (xs.length : Int) := by omega
                        have hjl : (j : Int) < (xs.length : Int) := by omega
                        have HD : Hid (xs[k].1 = xs[j].1 → dup (fsts xs) = true) := fun h => dup_hit hlt hjk h
                        have HZ : Hid (xs[k].1 ≠ xs[j].1 → ∀ i (hi : i < xs.length), i < j + 1 → xs[i].1 ≠ xs[k].1) := by
                          intro h i hi hij
                          rcases Nat.lt_succ_iff_lt_or_eq.1 hij with h1 | rfl
                          · exact hz.out i hi h1
                          · exact fun e => h e.symm
                        clear hc hz
                        generalize xs[k].1 = x at *
                        generalize xs[j].1 = y at *
                        by_cases hxy : x = y
                        · have e1 : (x == y) = true := by simp [hxy]
                          have HE : Hid (checkE ns is xs bs hs = 6) := by rw [HC4.out]; rw [HD.out hxy, Bool.or_true]; rfl
                          clear hxy HD HZ
                          go_wp2
                          go_quiet (fail)
                          go_wp2
                          go_ret
                          exact ⟨ret_int HE.out.symm, below_drewN hbw _⟩
                        · have e1 : (x == y) = false := by simp [hxy]
                          have HZ2 := hide (HZ.out hxy)
                          clear hxy HD HZ
                          go_wp2
                          go_quiet (fail)
                          go_wp2
                          go_roundw
                          case rel => exact ⟨j + 1, by omega, by go_num, below_drewN hbw _, hbx.out.later (below_drewN (Below.refl _ _) _), HZ2⟩
                          case measure => simp [intOf]; omega
                      · obtain rfl : j = k := by omega
                        have HD2 : Hid (dup (fsts (xs.take (j + 1))) = false) := dup_step hlt hdu.out hz.out
                        clear hz hdu
                        go_wp2
                        go_roundw
                        case rel => exact ⟨j + 1, by omega, by go_num, hbw, hbx, HD2⟩
                        case measure => simp [intOf]; omega
                  · obtain rfl : k = xs.length := by omega
                    have HDF : Hid (dup (fsts xs) = false) := by have := hdu.out; rw [List.take_length] at this; exact this
                    clear hdu
                    go_wp2
                    go_roundw
                    case rel => exact ⟨2, by omega, by go_num, hbw, hbx, fun _ => HD0.out, fun _ => HDF.out⟩
                    case measure => simp [intOf]
              | 2, _ =>
                have HD0 := hide (hd0.out (by omega))
                have HD1 := hide (hd1.out (by omega))
                have HC5 : Hid (checkE ns is xs bs hs = if xs.length ≠ (sel (isK ns 3) ns.length).length then 5 else if (bs ++ hs).any (fun x => !isN ns.length x) then 5 else if (bs ++ hs).any (fun x => wdOf ns x != 1) then 1 else 0) := by
                  rw [HC4.out, HD0.out, HD1.out, if_neg (by simp), marks_plain HX0.out HD1.out]; rfl
                clear hd0 hd1 HC4 HI0 HX0 HD0 HD1
                have HNR := hide (fun (w' : World) (hb : Below wr.heap.size wr w') => nodesR_any ⟨a0, c0, a1, is.length, c1, a2, xs.length, c2, a3, bs.length, c3, a4, hs.length, c4⟩ ns (by omega) 3 w' ((HN.out.later hbw).later hb))
                have hNlt : w.heap.size < wr.heap.size := World.block_lt_of_cell? _ _ q0
                by_cases hlen : xs.length = (sel (isK ns 3) ns.length).length
                · have hl' : ((xs.length : Int) != ((sel (isK ns 3) ns.length).length : Int)) = false := by rw [hlen]; simp
                  have HC6 : Hid (checkE ns is xs bs hs = if (bs ++ hs).any (fun x => !isN ns.length x) then 5 else if (bs ++ hs).any (fun x => wdOf ns x != 1) then 1 else 0) := by
                    rw [HC5.out, if_neg (by simp [hlen])]; rfl
                  clear HC5 hlen
                  generalize (sel (isK ns 3) ns.length).length = sl at *
                  go_wp2
                  go_region_held3 (fun w' => w'.cell? ⟨w.heap.size, 0, none⟩ = some (.slice a0 ns.length c0) ∧ w'.cell? ⟨w.heap.size, 1, none⟩ = some (.slice a1 is.length c1) ∧ w'.cell? ⟨w.heap.size, 2, none⟩ = some (.slice a2 xs.length c2) ∧ w'.cell? ⟨w.heap.size, 3, none⟩ = some (.slice a3 bs.length c3) ∧ w'.cell? ⟨w.heap.size, 4, none⟩ = some (.slice a4 hs.length c4))
                    (first | exact ⟨q0, q1, q2, q3, q4⟩ | exact ⟨cell_later hbc q0, cell_later hbc q1, cell_later hbc q2, cell_later hbc q3, cell_later hbc q4⟩ | go_keep)
                    ((go_at_call 22; refine (HNR.out _ (Below.refl _ _).drew).mono ?_; rintro e w5 ⟨p5, cap5, rfl, _, hbc⟩))
                  have hb5 := (Below.refl _ wr).drew.trans hbc
                  have HB5 := hide (bthen hbw hb5)
                  have HX5 := hide (hbx.out.later hb5)
                  have x0 := cell_later hb5 q0
                  have x3 := cell_later hb5 q3
                  have x4 := cell_later hb5 q4
                  have HI3 := hide (HBs.out.later HB5.out)
                  have HI4 := hide (HHs.out.later HB5.out)
                  have hN5 : w.heap.size < w5.heap.size := by have := hb5.size; omega
                  clear hb5 hbc hbw hbx q0 q1 q2 q3 q4 HNR hNlt HBs HHs
                  go_wp2
                  go_region_held3 (fun w' => w'.cell? ⟨w.heap.size, 3, none⟩ = some (.slice a3 bs.length c3) ∧ w'.cell? ⟨w.heap.size, 4, none⟩ = some (.slice a4 hs.length c4))
                    (first | exact ⟨x3, x4⟩ | exact ⟨past1 x3 _, past1 x4 _⟩ | exact ⟨cell_later hbB x3, cell_later hbB x4⟩ | exact ⟨cell_later hbA x3, cell_later hbA x4⟩ | go_keep)
                    (first
                      | (refine step_append_ints rfl (.tmp 168) (.tmp 170) rfl _ _ [] (by simp [Act.eval]) (World.ownsRow_made _ #[] 0 (Nat.le_refl _) (Nat.zero_le _) rfl) a3 c3 bs (by simp [Act.eval]) (HI3.out.later (bal (Below.refl _ _).drew _)) hn3 (by simp; omega) (by simp) ?_; intro v1 w1 ho1 hg1; have hbA : Below w5.heap.size w5 w1 := (bal (Below.refl _ _).drew _).grown hg1 (by simp) (fun j hj => by simp [Value.ownBlock] at hj; omega))
                      | (refine step_append_ints rfl (.tmp 171) (.tmp 173) rfl _ _ bs (by simp [Act.eval]) ho1 a4 c4 hs (by simp [Act.eval]) (HI4.out.later hbA) hn4 (by omega) (by have := hbA.size; simpa using this) ?_; intro v2 w2 ho2 hg2; have hbB : Below w5.heap.size w5 w2 := hbA.grown hg2 (by have := hbA.size; simpa using this) (fun j hj => by have := (ho1.lt j hj).1; simpa using this)))
                  obtain ⟨pm, capm, rfl, hJ⟩ := owns_ints ho2
                  have HB6 := hide (bthen HB5.out hbB)
                  have HJ := hide hJ
                  have x6 := cell_later hbB x0
                  have hll : (bs ++ hs).length ≤ 16 := by simp; omega
                  have HN6 := hide (HN.out.later HB6.out)
                  clear ho2 hg2 hbB hbA ho1 hg1 x0 x3 x4 HB5 HX5 HI3 HI4 hJ hN5
                  generalize bs ++ hs = L at *
                  go_wp2
                  go_loopw [15] (fun i wr => ∃ k : Nat, k ≤ L.length ∧ i = .int .i64 k ∧ Below w2.heap.size w2 wr ∧ Hid (∀ i (hi : i < L.length), i < k → isN ns.length L[i] = true)) (fun i _ => L.length - (intOf i).toNat)
                  case atStart => exact ⟨0, Nat.zero_le _, rfl, Below.refl _ _, fun i hi h => by omega⟩
                  case round =>
                    obtain ⟨k, hk, rfl, hbw, hz⟩ := hrel
                    have q0 := cell_later hbw x6
                    by_cases hlt : k < L.length
                    · obtain ⟨b, off, rfl, hc⟩ := (HJ.out.later hbw) (by omega)
                      have d0 := hc k hlt
                      have hkl : (k : Int) < (L.length : Int) := by omega
                      have HM : Hid (isN ns.length L[k] = false → L.any (fun x => !isN ns.length x) = true) := fun h => List.any_eq_true.2 ⟨L[k], List.getElem_mem hlt, by rw [h]; rfl⟩
                      have HZ : Hid (isN ns.length L[k] = true → ∀ i (hi : i < L.length), i < k + 1 → isN ns.length L[i] = true) := by
                        intro h i hi hik
                        rcases Nat.lt_succ_iff_lt_or_eq.1 hik with h1 | rfl
                        · exact hz.out i hi h1
                        · exact h
                      clear hc hz
                      generalize L[k] = x at *
                      have HBT := hide (betweenN_any ns.length x)
                      cases hxb : isN ns.length x
                      · have HE : Hid (checkE ns is xs bs hs = 5) := by rw [HC6.out, if_pos (HM.out hxb)]; rfl
                        rw [hxb] at HBT
                        clear HM HZ hxb
                        go_wp2
                        go_quiet (first | (go_at_call 21; exact Calls.quiet_of_same (HBT.out _)))
                        go_wp2
                        go_ret
                        exact ⟨ret_int HE.out.symm, below_drewN (bthen HB6.out hbw) _⟩
                      · have HZ2 := hide (HZ.out hxb)
                        rw [hxb] at HBT
                        clear HM HZ hxb
                        go_wp2
                        go_quiet (first | (go_at_call 21; exact Calls.quiet_of_same (HBT.out _)))
                        go_wp2
                        go_roundw
                        case rel => first | exact ⟨k + 1, by omega, by go_num, below_drewN hbw _, HZ2⟩ | ((repeat apply Exists.intro); exact ⟨⟨k + 1, by omega, by go_num, below_drewN hbw _, HZ2⟩, rfl⟩)
                        case measure => simp [intOf]; omega
                    · obtain rfl : k = L.length := by omega
                      have HAll := hide (fun i (hi : i < L.length) => hz.out i hi hi)
                      have HC7 : Hid (checkE ns is xs bs hs = if L.any (fun x => wdOf ns x != 1) then 1 else 0) := by
                        rw [HC6.out, if_neg]
                        · rfl
                        · rw [Bool.not_eq_true, List.any_eq_false]
                          intro y hy
                          obtain ⟨i, hi, rfl⟩ := List.getElem_of_mem hy
                          rw [HAll.out i hi]
                          simp
                      clear hz HC6
                      go_wp2
                      go_loopw [16] (fun i wr => ∃ k : Nat, k ≤ L.length ∧ i = .int .i64 k ∧ Below w2.heap.size w2 wr ∧ Hid (∀ i (hi : i < L.length), i < k → (wdOf ns L[i] != 1) = false)) (fun i _ => L.length - (intOf i).toNat)
                      case atStart => exact ⟨0, Nat.zero_le _, rfl, hbw, fun i hi h => by omega⟩
                      case round =>
                        obtain ⟨k, hk, rfl, hbw, hz⟩ := hrel
                        clear q0
                        have q0 := cell_later hbw x6
                        by_cases hlt : k < L.length
                        · obtain ⟨b, off, rfl, hc⟩ := (HJ.out.later hbw) (by omega)
                          have d0 := hc k hlt
                          have hkl : (k : Int) < (L.length : Int) := by omega
                          obtain ⟨y0, y1⟩ := isN_true.1 (HAll.out k hlt)
                          have HM : Hid ((wdOf ns L[k] != 1) = true → L.any (fun x => wdOf ns x != 1) = true) := fun h => List.any_eq_true.2 ⟨L[k], List.getElem_mem hlt, h⟩
                          have HZ : Hid ((wdOf ns L[k] != 1) = false → ∀ i (hi : i < L.length), i < k + 1 → (wdOf ns L[i] != 1) = false) := by
                            intro h i hi hik
                            rcases Nat.lt_succ_iff_lt_or_eq.1 hik with h1 | rfl
                            · exact hz.out i hi h1
                            · exact h
                          clear hc hz
                          generalize L[k] = x at *
                          obtain ⟨nb, noff, rfl, hnc⟩ := (HN6.out.later hbw) (by omega)
                          have k2 := (kd_wd hnc x y0 y1).2
                          clear hnc
                          cases hxb : (wdOf ns x != 1)
                          · have HZ2 := hide (HZ.out hxb)
                            clear HM HZ
                            go_wp2
                            go_quiet (fail)
                            go_wp2
                            go_roundw
                            case rel => first | exact ⟨k + 1, by omega, by go_num, below_drewN hbw _, HZ2⟩ | ((repeat apply Exists.intro); exact ⟨⟨k + 1, by omega, by go_num, below_drewN hbw _, HZ2⟩, rfl⟩)
                            case measure => simp [intOf]; omega
                          · have HE : Hid (checkE ns is xs bs hs = 1) := by rw [HC7.out, if_pos (HM.out hxb)]; rfl
                            clear HM HZ
                            go_wp2
                            go_quiet (fail)
                            go_wp2
                            go_ret
                            exact ⟨ret_int HE.out.symm, below_drewN (bthen HB6.out hbw) _⟩
                        · have HE : Hid (checkE ns is xs bs hs = 0) := by
                            rw [HC7.out, if_neg]
                            · rfl
                            · rw [Bool.not_eq_true, List.any_eq_false]
                              intro y hy
                              obtain ⟨i, hi, rfl⟩ := List.getElem_of_mem hy
                              rw [hz.out i hi (by omega)]
                              simp
                          clear hz
                          go_wp2
                          go_ret
                          exact ⟨ret_int HE.out.symm, bthen HB6.out hbw⟩
                · have hl' : ((xs.length : Int) != ((sel (isK ns 3) ns.length).length : Int)) = true := by simp; omega
                  have HE : Hid (checkE ns is xs bs hs = 5) := by rw [HC5.out, if_pos hlen]; rfl
                  clear HC5 hlen
                  generalize (sel (isK ns 3) ns.length).length = sl at *
                  go_wp2
                  go_region_held3 (fun w' => w'.cell? ⟨w.heap.size, 0, none⟩ = some (.slice a0 ns.length c0) ∧ w'.cell? ⟨w.heap.size, 1, none⟩ = some (.slice a1 is.length c1) ∧ w'.cell? ⟨w.heap.size, 2, none⟩ = some (.slice a2 xs.length c2) ∧ w'.cell? ⟨w.heap.size, 3, none⟩ = some (.slice a3 bs.length c3) ∧ w'.cell? ⟨w.heap.size, 4, none⟩ = some (.slice a4 hs.length c4))
                    (first | exact ⟨q0, q1, q2, q3, q4⟩ | exact ⟨cell_later hbc q0, cell_later hbc q1, cell_later hbc q2, cell_later hbc q3, cell_later hbc q4⟩ | go_keep)
                    ((go_at_call 22; refine (HNR.out _ (Below.refl _ _).drew).mono ?_; rintro e w5 ⟨p5, cap5, rfl, _, hbc⟩))
                  all_goals
                    go_wp2
                    go_ret
                    exact ⟨ret_int HE.out.symm, bthen hbw ((Below.refl _ wr).drew.trans hbc)⟩

end Go.Proofs.Ytfobcnhibhbbaaa
