/- What comes of a model: the word of each state's pair. -/
import Derived.Test.YtlpflmnijhfkfaaEf
namespace Go.Proofs.Ytlpflmnijhfkfaa
open Go.RowKit

/-- The node of a state's last pair; the state itself, where it has none. -/
def fromOf (s : Int) (l : List (Int × Int)) : Int := l.foldl (fun acc p => if p.1 == s then p.2 else acc) s
theorem fromOf_take (s : Int) (l : List (Int × Int)) (k : Nat) (h : k < l.length) : fromOf s (l.take (k + 1)) = if l[k].1 == s then l[k].2 else fromOf s (l.take k) := by
  unfold fromOf
  rw [List.take_succ_eq_append_getElem h, List.foldl_append]
  rfl
theorem fromOf_in {s : Int} {l : List (Int × Int)} {n : Nat} (hs : 0 ≤ s ∧ s < n) (hl : ∀ p ∈ l, 0 ≤ p.2 ∧ p.2 < n) : 0 ≤ fromOf s l ∧ fromOf s l < n := by
  unfold fromOf
  have key : ∀ (l : List (Int × Int)) (a : Int), (∀ p ∈ l, 0 ≤ p.2 ∧ p.2 < (n : Int)) → (0 ≤ a ∧ a < n) → 0 ≤ l.foldl (fun acc p => if p.1 == s then p.2 else acc) a ∧ l.foldl (fun acc p => if p.1 == s then p.2 else acc) a < n := by
    intro l
    induction l with
    | nil => intro a _ ha; exact ha
    | cons p t ih =>
      intro a hl ha
      simp only [List.foldl_cons]
      refine ih _ (fun q hq => hl q (List.mem_cons_of_mem _ hq)) ?_
      split
      · exact hl p (List.mem_cons_self ..)
      · exact ha
  exact key l s hl hs
/-- The words of all states' pairs. -/
def followL (ns : List Nd) (l : List (Int × Int)) (vs : List Int) : List Int := (sel (isK ns 3) ns.length).map (fun s => vs.getD (fromOf s l).toNat 0)

set_option maxRecDepth 100000 in
set_option maxHeartbeats 4000000 in
theorem follow_any (m : Mv) (ns : List Nd) (hl : ns.length ≤ 80) (l : List (Int × Int)) (hll : l.length ≤ 8796093022208) (hin : ∀ p ∈ l, 0 ≤ p.2 ∧ p.2 < ns.length) (vs : List Int) (hvs : vs.length = ns.length) (pp pv : Option Addr) (cp cv : Nat) (w : World) (hN : NodesAt w m.a0 ns) (hP : PairsAt w pp l) (hV : IntsAt w pv vs) :
    Calls Try.prog 74 #[m.val ns.length, .slice pp l.length cp, .slice pv vs.length cv] w fun e w' =>
      ∃ p cap, e = .returned (.slice p (followL ns l vs).length cap) ∧ IntsAt w' p (followL ns l vs) ∧ Below w.heap.size w w' := by
  obtain ⟨i0, hi, hz0, hz1, hz2⟩ := info_parts info3
  obtain ⟨a0, c0, a1, l1, c1, a2, l2, c2, a3, l3, c3, a4, l4, c4⟩ := m
  simp only at hN
  have HB0 : Hid (Below w.heap.size w (w.alloc (.cells (Mv.cells ⟨a0, c0, a1, l1, c1, a2, l2, c2, a3, l3, c3, a4, l4, c4⟩ ns.length) 40))) := bal (Below.refl _ _) _
  have HK := hide (fun _ : Unit => ofKind_any a0 c0 ns (by omega) 3 _ (hN.later HB0.out))
  have HBD : Hid (∀ k (h : k < (sel (isK ns 3) ns.length).length), 0 ≤ (sel (isK ns 3) ns.length)[k] ∧ (sel (isK ns 3) ns.length)[k] < ns.length) := fun k h => sel_bd h
  have hsl := sel_len (isK ns 3) ns.length
  have HFL : Hid (followL ns l vs = (sel (isK ns 3) ns.length).map (fun s => vs.getD (fromOf s l).toNat 0)) := rfl
  have HP := hide hP
  have HV := hide hV
  have HIn := hide hin
  have HVL := hide hvs
  clear hN hP hV hin hvs
  generalize followL ns l vs = F at *
  generalize sel (isK ns 3) ns.length = S at *
  go_enter Try.func74, Try.ntmps74
  go_wp2_with fail
  refine (HK.out ()).mono ?_
  rintro e w1 ⟨q, qc, rfl, hQ, hb1⟩
  have HB1 := hide (bthen HB0.out hb1)
  have HQ := hide hQ
  clear hb1 hQ HB0 HK
  go_wp2
  go_loopw [7, 17] (fun v i wr => ∃ k : Nat, k ≤ S.length ∧ i = .int .i64 k ∧ wr.ownsRow w1.heap.size 3 1 v ((S.take k).map (fun s => vs.getD (fromOf s l).toNat 0)).length (((S.take k).map (fun s => vs.getD (fromOf s l).toNat 0)).map (Value.int .i64)) ∧ Below w1.heap.size w1 wr) (fun _ i _ => S.length - (intOf i).toNat)
  case atStart => exact ⟨0, Nat.zero_le _, rfl, World.ownsRow_nil _ _ _ _, Below.refl _ _⟩
  case round =>
  obtain ⟨k, hk, rfl, hown, hbw⟩ := hrel
  by_cases hlt : k < S.length
  · obtain ⟨b, off, rfl, hc⟩ := (HQ.out.later hbw) (by omega)
    have d0 := hc k hlt
    have hkl : (k : Int) < (S.length : Int) := by omega
    obtain ⟨s0, s1⟩ := HBD.out k hlt
    have HS : Hid ((S.take (k + 1)).map (fun s => vs.getD (fromOf s l).toNat 0) = (S.take k).map (fun s => vs.getD (fromOf s l).toNat 0) ++ [vs.getD (fromOf S[k] l).toNat 0]) := by
      rw [List.take_succ_eq_append_getElem hlt, List.map_append]; rfl
    have hlen : ((S.take k).map (fun s => vs.getD (fromOf s l).toNat 0)).length ≤ 80 := by simp; omega
    clear hc
    generalize S[k] = s at *
    generalize (S.take k).map (fun s => vs.getD (fromOf s l).toNat 0) = F0 at *
    have HFI := hide (fromOf_in (n := ns.length) ⟨s0, s1⟩ HIn.out)
    go_wp2
    go_loopw [10, 24] (fun f j wq => ∃ jj : Nat, jj ≤ l.length ∧ j = .int .i64 jj ∧ f = .int .i64 (fromOf s (l.take jj)) ∧ wq.ownsRow w1.heap.size 3 1 u7 F0.length (F0.map (Value.int .i64)) ∧ Below w1.heap.size w1 wq) (fun _ j _ => l.length - (intOf j).toNat)
    case atStart => exact ⟨0, Nat.zero_le _, rfl, rfl, hown, hbw⟩
    case round =>
      clear hown hbw
      obtain ⟨j, hj, rfl, rfl, hown, hbw⟩ := hrel
      by_cases hlt2 : j < l.length
      · obtain ⟨b2, off2, rfl, hc2⟩ := (HP.out.later (bthen HB1.out hbw)) (by omega)
        obtain ⟨e0, e1⟩ := hc2 j hlt2
        have HT := hide (fromOf_take s l j hlt2)
        have hjl : (j : Int) < (l.length : Int) := by omega
        clear hc2
        generalize l[j] = pr at *
        obtain ⟨t, y⟩ := pr
        simp only at e0 e1 HT
        cases hf : (t == s)
        · have HS2 : Hid (fromOf s (l.take (j + 1)) = fromOf s (l.take j)) := by rw [HT.out, hf]; simp [Hid]
          clear HT
          go_wp2
          go_roundw
          case rel => first | exact ⟨j + 1, by omega, by go_num, by rw [HS2.out], hown.alloc _, bal hbw _⟩ | ((repeat apply Exists.intro); exact ⟨⟨j + 1, by omega, by go_num, by rw [HS2.out], hown.alloc _, bal hbw _⟩, rfl⟩)
          case measure => simp [intOf]; omega
        · have HS2 : Hid (fromOf s (l.take (j + 1)) = y) := by rw [HT.out, hf]; simp [Hid]
          clear HT
          go_wp2
          go_roundw
          case rel => first | exact ⟨j + 1, by omega, by go_num, by rw [HS2.out], hown.alloc _, bal hbw _⟩ | ((repeat apply Exists.intro); exact ⟨⟨j + 1, by omega, by go_num, by rw [HS2.out], hown.alloc _, bal hbw _⟩, rfl⟩)
          case measure => simp [intOf]; omega
      · obtain rfl : j = l.length := by omega
        rw [List.take_length]
        obtain ⟨f0, f1⟩ := HFI.out
        have hvl := HVL.out
        obtain ⟨b3, off3, rfl, hc3⟩ := (HV.out.later (bthen HB1.out hbw)) (by omega)
        have e3 := hc3 (fromOf s l).toNat (by omega)
        rw [← getD_at] at e3
        have hsz := hbw.size
        have hfv : fromOf s l < (vs.length : Int) := by omega
        generalize vs.getD (fromOf s l).toNat 0 = wv at *
        generalize fromOf s l = f at *
        clear hc3
        have HVL2 := hide hvl
        clear hvl
        go_wp2_with (at_builtin; refine wpList_append_own _ rfl _ _ 31 rfl w1.heap.size 3 i0 (.int .i64 0) 1 8 Try.underlying31 hi hz0 hz1 hz2 rfl (by decide) _ _ _ rfl (hown.alloc _) ⟨wr.heap.size, 0, none⟩ 1 1 [.int .i64 wv] rfl rfl ?c1 ?c2 ?c3 ?c4 ?c5 ?_)
        case c1 =>
          intro j u hj
          match j, hj with
          | 0, hj => simp at hj; subst hj; simp [Addr.add]
        case c2 => intro u hu; simp at hu; subst hu; rfl
        case c3 => unfold maxLen; omega
        case c4 => omega
        case c5 => simp; omega
        intro v' w2 hown' hgrow _
        have R := owns_later hown hown' hgrow hbw hsz
        rw [← HS.out] at R
        clear hown' hgrow hown
        go_wp2
        go_roundw
        case rel => first | exact ⟨k + 1, by omega, by go_num, R.1, R.2⟩ | ((repeat apply Exists.intro); exact ⟨⟨k + 1, by omega, by go_num, R.1, R.2⟩, rfl⟩)
        case measure => simp [intOf]; omega
  · obtain rfl : k = S.length := by omega
    rw [List.take_length, ← HFL.out] at hown
    obtain ⟨p, cap, rfl, hJ⟩ := owns_ints hown
    go_wp2
    go_ret
    exact ⟨p, cap, rfl, hJ, bthen HB1.out hbw⟩

end Go.Proofs.Ytlpflmnijhfkfaa
