/- What comes of a model: the plain text's pairs, steps and marks. -/
import Derived.Test.YtfobcnhibhbbaaaEh
import Derived.Test.YtfobcnhibhbbaaaNi
import Derived.Test.YtfobcnhibhbbaaaNd
import Derived.Test.YtfobcnhibhbbaaaEe
import Derived.Test.YtfobcnhibhbbaaaEjM
namespace Go.Proofs.Ytfobcnhibhbbaaa
open Go.RowKit
set_option maxRecDepth 100000

/-- The node of a state's first pair; -1: none. -/
def pairOf (s : Int) (l : List (Int × Int)) : Int := match l.find? (fun p => p.1 == s) with | some p => p.2 | none => -1
theorem pairOf_hit {s : Int} {l : List (Int × Int)} {k : Nat} (hk : k < l.length) (h : ∀ i (hi : i < l.length), i < k → (l[i].1 == s) = false) (hf : (l[k].1 == s) = true) : pairOf s l = l[k].2 := by
  have : l.find? (fun p => p.1 == s) = some l[k] := by
    rw [List.find?_eq_some_iff_getElem]
    exact ⟨hf, k, hk, rfl, fun j hj => by simp [h j (by omega) hj]⟩
  unfold pairOf
  rw [this]
theorem pairOf_miss {s : Int} {l : List (Int × Int)} (h : ∀ i (hi : i < l.length), (l[i].1 == s) = false) : pairOf s l = -1 := by
  have : l.find? (fun p => p.1 == s) = none := by
    rw [List.find?_eq_none]
    intro x hx
    obtain ⟨i, hi, rfl⟩ := List.getElem_of_mem hx
    simp [h i hi]
  unfold pairOf
  rw [this]

set_option maxRecDepth 100000 in
set_option maxHeartbeats 1000000 in
theorem pairOf_any (s : Int) (l : List (Int × Int)) (hl : l.length ≤ 8796093022208) (pp : Option Addr) (cp : Nat) (w : World) (hP : PairsAt w pp l) :
    Calls Try.prog 43 #[.slice pp l.length cp, .int .i64 s] w fun e w' => e = .returned (.int .i64 (pairOf s l)) ∧ w' = w := by
  have HP := hide hP
  clear hP
  go_enter Try.func43, Try.ntmps43
  go_wp2
  go_loopw [5] (fun i wr => ∃ k : Nat, k ≤ l.length ∧ i = .int .i64 k ∧ wr = w ∧ Hid (∀ i (hi : i < l.length), i < k → (l[i].1 == s) = false)) (fun i _ => l.length - (intOf i).toNat)
  case atStart => exact ⟨0, Nat.zero_le _, rfl, rfl, fun i hi h => by omega⟩
  case round =>
    obtain ⟨k, hk, rfl, rfl, hz⟩ := hrel
    by_cases hlt : k < l.length
    · obtain ⟨b, off, rfl, hc⟩ := HP.out (by omega)
      obtain ⟨d0, d1⟩ := hc k hlt
      have hkl : (k : Int) < (l.length : Int) := by omega
      have HY := hide (fun h => pairOf_hit hlt hz.out h)
      have HN : Hid ((l[k].1 == s) = false → ∀ i (hi : i < l.length), i < k + 1 → (l[i].1 == s) = false) := by
        intro h i hi hik
        rcases Nat.lt_succ_iff_lt_or_eq.1 hik with h1 | rfl
        · exact hz.out i hi h1
        · exact h
      clear hc hz
      generalize l[k] = pr at *
      obtain ⟨t, y⟩ := pr
      simp only at *
      cases hf : (t == s)
      · have HN2 := hide (HN.out hf)
        clear HY HN
        go_wp2
        go_roundw
        case rel => exact ⟨k + 1, by omega, by go_num, by first | rfl | trivial, HN2⟩
        case measure => simp [intOf]; omega
      · have HY2 := hide (HY.out hf)
        clear HY HN
        go_wp2
        go_ret
        exact ⟨ret_int HY2.out.symm, rfl⟩
    · have HE : Hid (pairOf s l = -1) := pairOf_miss (fun i hi => hz.out i hi (by omega))
      clear hz
      go_wp2
      go_ret
      exact ⟨ret_int HE.out.symm, rfl⟩

/-- The words of all states' first pairs. -/
def nextRL (ns : List Nd) (xs : List (Int × Int)) (vs : List Int) : List Int := (sel (isK ns 3) ns.length).map (fun s => vs.getD (pairOf s xs).toNat 0)

set_option maxRecDepth 100000 in
set_option maxHeartbeats 4000000 in
theorem nextOf_any (a0 a1 a2 a3 a4 : Option Addr) (c0 c1 c2 c3 c4 l1 l3 l4 : Nat) (ns : List Nd) (xs : List (Int × Int)) (hl : ns.length ≤ 80) (hlx : xs.length ≤ 8796093022208) (hin : ∀ s ∈ sel (isK ns 3) ns.length, 0 ≤ pairOf s xs ∧ pairOf s xs < ns.length) (vs : List Int) (hvs : vs.length = ns.length) (pv : Option Addr) (cv : Nat) (w : World) (hN : NodesAt w a0 ns) (hX : PairsAt w a2 xs) (hV : IntsAt w pv vs) :
    Calls Try.prog 29 #[Mv.val ⟨a0, c0, a1, l1, c1, a2, xs.length, c2, a3, l3, c3, a4, l4, c4⟩ ns.length, .slice pv vs.length cv] w fun e w' =>
      ∃ p cap, e = .returned (.slice p (nextRL ns xs vs).length cap) ∧ IntsAt w' p (nextRL ns xs vs) ∧ Below w.heap.size w w' := by
  have HB0 : Hid (Below w.heap.size w (w.alloc (.cells (Mv.cells ⟨a0, c0, a1, l1, c1, a2, xs.length, c2, a3, l3, c3, a4, l4, c4⟩ ns.length) 26))) := bal (Below.refl _ _) _
  have HBx := hide (Box.new w ⟨a0, c0, a1, l1, c1, a2, xs.length, c2, a3, l3, c3, a4, l4, c4⟩ ns.length)
  have HK := hide (fun _ : Unit => nodesR_any ⟨a0, c0, a1, l1, c1, a2, xs.length, c2, a3, l3, c3, a4, l4, c4⟩ ns (by omega) 3 _ (hN.later HB0.out))
  have hsl := sel_len (isK ns 3) ns.length
  have HFL : Hid (nextRL ns xs vs = (sel (isK ns 3) ns.length).map (fun s => vs.getD (pairOf s xs).toNat 0)) := rfl
  have HX := hide hX
  have HV := hide hV
  have HIn := hide hin
  have HVL := hide hvs
  clear hN hX hV hin hvs
  generalize nextRL ns xs vs = F at *
  generalize sel (isK ns 3) ns.length = S at *
  go_enter Try.func29, Try.ntmps29
  go_wp2_with fail
  refine (HK.out ()).mono ?_
  rintro e w1 ⟨q, qc, rfl, hQ, hb1⟩
  have HB1 := hide (bthen HB0.out hb1)
  have HX1 := hide (HBx.out.later hb1)
  have HQ := hide hQ
  clear hb1 hQ HB0 HK HBx
  go_wp2
  go_loopw [6, 7] (fun v i wr => ∃ k : Nat, k ≤ S.length ∧ i = .int .i64 k ∧ wr.ownsRow w1.heap.size 3 1 v ((S.take k).map (fun s => vs.getD (pairOf s xs).toNat 0)).length (((S.take k).map (fun s => vs.getD (pairOf s xs).toNat 0)).map (Value.int .i64)) ∧ Below w1.heap.size w1 wr) (fun _ i _ => S.length - (intOf i).toNat)
  case atStart => exact ⟨0, Nat.zero_le _, rfl, World.ownsRow_nil _ _ _ _, Below.refl _ _⟩
  case round =>
  obtain ⟨k, hk, rfl, hown, hbw⟩ := hrel
  by_cases hlt : k < S.length
  · obtain ⟨b, off, rfl, hc⟩ := HQ.out (by omega)
    have d0w := hc k hlt
    have d0 := cell_later hbw d0w
    have hkl : (k : Int) < (S.length : Int) := by omega
    obtain ⟨s0, s1⟩ := HIn.out S[k] (List.getElem_mem hlt)
    have HS : Hid ((S.take (k + 1)).map (fun s => vs.getD (pairOf s xs).toNat 0) = (S.take k).map (fun s => vs.getD (pairOf s xs).toNat 0) ++ [vs.getD (pairOf S[k] xs).toNat 0]) := by
      rw [List.take_succ_eq_append_getElem hlt, List.map_append]; rfl
    have hlen : ((S.take k).map (fun s => vs.getD (pairOf s xs).toNat 0)).length ≤ 80 := by simp; omega
    have q2w := HX1.out.2.2.1
    have q2 := cell_later hbw q2w
    have hvl := HVL.out
    obtain ⟨b3, off3, rfl, hc3⟩ := (HV.out.later HB1.out) (by omega)
    have e3w := hc3 (pairOf S[k] xs).toNat (by omega)
    rw [← getD_at (l := vs) (k := (pairOf S[k] xs).toNat) (by omega)] at e3w
    have e3 := cell_later hbw e3w
    have hpv : pairOf S[k] xs < (vs.length : Int) := by omega
    have HPO := hide (fun _ : Unit => pairOf_any S[k] xs hlx a2 c2 wr.drew (HX.out.later (bthen HB1.out hbw.drew)))
    have hsz := hbw.size
    clear hc hc3 hvl
    generalize vs.getD (pairOf S[k] xs).toNat 0 = wv at *
    generalize pairOf S[k] xs = po at *
    generalize S[k] = s at *
    generalize (S.take k).map (fun s => vs.getD (pairOf s xs).toNat 0) = F0 at *
    go_wp2
    go_region_held3 (fun w' => w'.cell? ⟨w.heap.size, 2, none⟩ = some (.slice a2 xs.length c2) ∧ w'.cell? ⟨b, off + k, none⟩ = some (.int .i64 s) ∧ w'.cell? ⟨b3, off3 + po.toNat, none⟩ = some (.int .i64 wv))
      (first | exact ⟨q2, d0, e3⟩ | exact ⟨past1 q2 _, past1 d0 _, past1 e3 _⟩ | exact ⟨cell_later hbA q2w, cell_later hbA d0w, cell_later hbA e3w⟩ | go_keep)
      (first | (go_at_call 43; refine (HPO.out ()).mono ?_; rintro e w' ⟨rfl, rfl⟩) | (refine step_append_ints rfl (.tmp 16) (.tmp 27) rfl w1.heap.size _ F0 (by simp [Act.eval]) (hown.drew.alloc _) (some ⟨wr.heap.size, 0, none⟩) 1 [wv] (by simp [Act.eval]) (fun _ => ⟨wr.heap.size, 0, rfl, fun j hj => by (match j, hj with | 0, _ => simp [go_sem])⟩) (fun h => by cases h) (by simp; omega) (by simp; omega) ?_; intro v1 w2 ho1 hg1; have hbA : Below w1.heap.size w1 w2 := (hbw.drew.alloc (by simpa using hsz) _).grown hg1 (by simp; omega) (fun j hj => (hown.lt j hj).1)))
    have R : w2.ownsRow w1.heap.size 3 1 v1 ((S.take (k + 1)).map (fun s => vs.getD (pairOf s xs).toNat 0)).length (((S.take (k + 1)).map (fun s => vs.getD (pairOf s xs).toNat 0)).map (Value.int .i64)) := by rw [HS.out]; exact ho1
    clear ho1 hg1 hown
    go_wp2
    go_roundw
    case rel => first | exact ⟨k + 1, by omega, by go_num, R, hbA⟩ | ((repeat apply Exists.intro); exact ⟨⟨k + 1, by omega, by go_num, R, hbA⟩, rfl⟩)
    case measure => simp [intOf]; omega
  · obtain rfl : k = S.length := by omega
    rw [List.take_length, ← HFL.out] at hown
    obtain ⟨p, cap, rfl, hJ⟩ := owns_ints hown
    go_wp2
    go_ret
    exact ⟨p, cap, rfl, hJ, bthen HB1.out hbw⟩

/-- Do all hold, is one bad: in the plain text's words. -/
def holdsR (hs vs : List Int) : Bool := hs.all (fun x => vs.getD x.toNat 0 == 1)
def badR (bs vs : List Int) : Bool := bs.any (fun x => vs.getD x.toNat 0 == 1)
theorem all_take {l : List Int} {f : Int → Bool} {k : Nat} (h : k < l.length) : (l.take (k + 1)).all f = ((l.take k).all f && f l[k]) := by
  rw [List.take_succ_eq_append_getElem h, List.all_append]; simp
theorem any_take {l : List Int} {f : Int → Bool} {k : Nat} (h : k < l.length) : (l.take (k + 1)).any f = ((l.take k).any f || f l[k]) := by
  rw [List.take_succ_eq_append_getElem h, List.any_append]; simp

set_option maxRecDepth 100000 in
set_option maxHeartbeats 4000000 in
theorem marksOf_any (a0 a1 a2 a3 a4 : Option Addr) (c0 c1 c2 c3 c4 l1 l2 : Nat) (n : Nat) (bs hs : List Int) (hlb : bs.length ≤ 8) (hlh : hs.length ≤ 8) (vs : List Int) (hvs : vs.length ≤ 80) (hb : ∀ x ∈ bs, 0 ≤ x ∧ x < vs.length) (hh : ∀ x ∈ hs, 0 ≤ x ∧ x < vs.length) (pv : Option Addr) (cv : Nat) (w : World) (hB : IntsAt w a3 bs) (hH : IntsAt w a4 hs) (hV : IntsAt w pv vs) :
    Calls Try.prog 28 #[Mv.val ⟨a0, c0, a1, l1, c1, a2, l2, c2, a3, bs.length, c3, a4, hs.length, c4⟩ n, .slice pv vs.length cv] w fun e w' => e = .returned (.tuple #[.bool (holdsR hs vs), .bool (badR bs vs)]) ∧ Below w.heap.size w w' := by
  have HB0 : Hid (Below w.heap.size w (w.alloc (.cells (Mv.cells ⟨a0, c0, a1, l1, c1, a2, l2, c2, a3, bs.length, c3, a4, hs.length, c4⟩ n) 26))) := bal (Below.refl _ _) _
  have HBx := hide (Box.new w ⟨a0, c0, a1, l1, c1, a2, l2, c2, a3, bs.length, c3, a4, hs.length, c4⟩ n)
  have HB := hide (hB.later HB0.out)
  have HH := hide (hH.later HB0.out)
  have HV := hide (hV.later HB0.out)
  have HIb := hide hb
  have HIh := hide hh
  have q3 := HBx.out.2.2.2.1
  have q4 := HBx.out.2.2.2.2
  have HRh : Hid (holdsR hs vs = hs.all (fun x => vs.getD x.toNat 0 == 1)) := rfl
  have HRb : Hid (badR bs vs = bs.any (fun x => vs.getD x.toNat 0 == 1)) := rfl
  clear hB hH hV hb hh HBx
  generalize holdsR hs vs = rh at *
  generalize badR bs vs = rb at *
  go_enter Try.func28, Try.ntmps28
  go_wp2
  generalize w.alloc (.cells (Mv.cells ⟨a0, c0, a1, l1, c1, a2, l2, c2, a3, bs.length, c3, a4, hs.length, c4⟩ n) 26) = wa at *
  go_loopw [6, 8] (fun h i wr => ∃ k : Nat, k ≤ hs.length ∧ i = .int .i64 k ∧ h = .bool ((hs.take k).all (fun x => vs.getD x.toNat 0 == 1)) ∧ wr = wa) (fun _ i _ => hs.length - (intOf i).toNat)
  case atStart => exact ⟨0, Nat.zero_le _, rfl, rfl, rfl⟩
  case round =>
    obtain ⟨k, hk, rfl, hbv, rfl⟩ := hrel
    by_cases hlt : k < hs.length
    · obtain ⟨b, off, rfl, hc⟩ := HH.out (by omega)
      have d0 := hc k hlt
      have hkl : (k : Int) < (hs.length : Int) := by omega
      obtain ⟨x0, x1⟩ := HIh.out hs[k] (List.getElem_mem hlt)
      obtain ⟨b2, off2, rfl, hc2⟩ := HV.out (by omega)
      have d1 := hc2 hs[k].toNat (by omega)
      rw [← getD_at (l := vs) (k := hs[k].toNat) (by omega)] at d1
      have HT := hide (all_take (f := fun x => vs.getD x.toNat 0 == 1) hlt)
      clear hc hc2
      generalize vs.getD hs[k].toNat 0 = y at *
      generalize hs[k] = x at *
      generalize (hs.take k).all (fun x => vs.getD x.toNat 0 == 1) = bb at *
      subst hbv
      cases bb
      · go_wp2
        go_roundw
        case rel => exact ⟨k + 1, by omega, by go_num, by rw [HT.out]; simp, by first | rfl | trivial⟩
        case measure => simp [intOf]; omega
      · go_wp2
        go_roundw
        case rel => exact ⟨k + 1, by omega, by go_num, by rw [HT.out]; simp, by first | rfl | trivial⟩
        case measure => simp [intOf]; omega
    · obtain rfl : k = hs.length := by omega
      rw [List.take_length, ← HRh.out] at hbv
      subst hbv
      go_wp2
      go_loopw [7, 9] (fun h i wq => ∃ k : Nat, k ≤ bs.length ∧ i = .int .i64 k ∧ h = .bool ((bs.take k).any (fun x => vs.getD x.toNat 0 == 1)) ∧ wq = wr) (fun _ i _ => bs.length - (intOf i).toNat)
      case atStart => exact ⟨0, Nat.zero_le _, rfl, rfl, rfl⟩
      case round =>
        obtain ⟨k, hk, rfl, hbv, rfl⟩ := hrel
        by_cases hlt : k < bs.length
        · obtain ⟨b, off, rfl, hc⟩ := HB.out (by omega)
          have d0 := hc k hlt
          have hkl : (k : Int) < (bs.length : Int) := by omega
          obtain ⟨x0, x1⟩ := HIb.out bs[k] (List.getElem_mem hlt)
          obtain ⟨b2, off2, rfl, hc2⟩ := HV.out (by omega)
          have d1 := hc2 bs[k].toNat (by omega)
          rw [← getD_at (l := vs) (k := bs[k].toNat) (by omega)] at d1
          have HT := hide (any_take (f := fun x => vs.getD x.toNat 0 == 1) hlt)
          clear hc hc2
          generalize vs.getD bs[k].toNat 0 = y at *
          generalize bs[k] = x at *
          generalize (bs.take k).any (fun x => vs.getD x.toNat 0 == 1) = bb at *
          subst hbv
          cases bb
          · go_wp2
            go_roundw
            case rel => exact ⟨k + 1, by omega, by go_num, by rw [HT.out]; simp, by first | rfl | trivial⟩
            case measure => simp [intOf]; omega
          · go_wp2
            go_roundw
            case rel => exact ⟨k + 1, by omega, by go_num, by rw [HT.out]; simp, by first | rfl | trivial⟩
            case measure => simp [intOf]; omega
        · obtain rfl : k = bs.length := by omega
          rw [List.take_length, ← HRb.out] at hbv
          subst hbv
          go_wp2
          go_ret2
          exact ⟨rfl, HB0.out⟩

end Go.Proofs.Ytfobcnhibhbbaaa

namespace Go.Proofs.Ytfobcnhibhbbaaa
open Go.RowKit
set_option maxRecDepth 100000

/-- What a list with its error should be. -/
def listB (l : List Int) (e c : Int) (r : List Int) : Bool := (e == c) && decide (l = if c = 0 then r else [])

end Go.Proofs.Ytfobcnhibhbbaaa

namespace Go.Proofs.Ytfobcnhibhbbaaa
open Go.RowKit
set_option maxRecDepth 100000

theorem foldl_find {s : Int} : ∀ (l : List (Int × Int)) (a : Int), dup (fsts l) = false → l.foldl (fun acc p => if p.1 == s then p.2 else acc) a = match l.find? (fun p => p.1 == s) with | some p => p.2 | none => a := by
  intro l
  induction l with
  | nil => intro a _; rfl
  | cons p t ih =>
    intro a hd
    have h' : dup (p.1 :: fsts t) = false := hd
    simp only [dup, Bool.or_eq_false_iff] at h'
    simp only [List.foldl_cons]
    rw [ih _ h'.2]
    by_cases hp : (p.1 == s) = true
    · rw [if_pos hp, List.find?_cons, hp]
      have hn : t.find? (fun q => q.1 == s) = none := by
        rw [List.find?_eq_none]
        intro q hq hqs
        have hc : (fsts t).contains p.1 = true := by
          simp only [beq_iff_eq] at hp hqs
          simp only [fsts, List.contains_iff_mem, List.mem_map]
          exact ⟨q, hq, by omega⟩
        rw [h'.1] at hc
        cases hc
      rw [hn]
    · rw [if_neg hp, List.find?_cons, (Bool.not_eq_true _).mp hp]

theorem from_find {s : Int} {l : List (Int × Int)} (hd : dup (fsts l) = false) : fromOf s l = match l.find? (fun p => p.1 == s) with | some p => p.2 | none => s := foldl_find l s hd

theorem from_pair {s : Int} {l : List (Int × Int)} (hd : dup (fsts l) = false) (hs : hasSt s l = true) : fromOf s l = pairOf s l := by
  rw [from_find hd]
  unfold pairOf
  cases hf : l.find? (fun p => p.1 == s) with
  | some p => rfl
  | none =>
    exfalso
    unfold hasSt at hs
    obtain ⟨p, hp, hps⟩ := List.any_eq_true.1 hs
    have := List.find?_eq_none.1 hf p hp
    exact this hps

theorem marks_has {ns : List Nd} {xs : List (Int × Int)} {bs hs : List Int} (h : marksE ns xs bs hs = 0) : ∀ s ∈ sel (isK ns 3) ns.length, hasSt s xs = true := by
  intro s hs'
  unfold marksE at h
  split at h
  · omega
  · rename_i h1
    have := List.any_eq_false.1 ((Bool.not_eq_true _).mp h1) s hs'
    simpa using this

theorem marks_one {ns : List Nd} {xs : List (Int × Int)} {bs hs : List Int} (h : marksE ns xs bs hs = 0) : ∀ x ∈ hs, wdOf ns x = 1 := by
  intro x hx
  unfold marksE at h
  split at h
  · omega
  · split at h
    · omega
    · split at h
      · omega
      · rename_i h3
        simp only [Bool.or_eq_true, not_or, Bool.not_eq_true] at h3
        have := List.any_eq_false.1 h3.2 x hx
        simpa using this

theorem next_same {ns : List Nd} {is xs : List (Int × Int)} {bs hs : List Int} (h : checkE ns is xs bs hs = 0) (vs : List Int) : nextRL ns xs vs = followL ns xs vs := by
  obtain ⟨_, _, hp, hm⟩ := check_zero h
  unfold nextRL followL
  refine List.map_congr_left (fun s hs' => ?_)
  rw [from_pair (pairs_zero hp).2.2.2 (marks_has hm s hs')]

theorem next_in {ns : List Nd} {is xs : List (Int × Int)} {bs hs : List Int} (h : checkE ns is xs bs hs = 0) : ∀ s ∈ sel (isK ns 3) ns.length, 0 ≤ pairOf s xs ∧ pairOf s xs < ns.length := by
  intro s hs'
  obtain ⟨_, _, hp, hm⟩ := check_zero h
  rw [← from_pair (pairs_zero hp).2.2.2 (marks_has hm s hs')]
  obtain ⟨i, hi, _, rfl⟩ := mem_sel.1 hs'
  exact fromOf_in ⟨by omega, by omega⟩ (fun p hpp => (pairE_zero ((pairs_zero hp).2.1 p hpp)).2.1)

theorem holds_same {ns : List Nd} {is xs : List (Int × Int)} {bs hs sts ins : List Int} (h : readyE ns is xs bs hs sts ins = 0) : holdsR hs (vals ns sts ins ns.length) = holdsI hs 0 (vals ns sts ins ns.length) := by
  obtain ⟨hck, h3, h2⟩ := ready_zero h
  obtain ⟨_, hn, _, hm⟩ := check_zero hck
  unfold holdsR holdsI
  rw [if_pos rfl]
  have key : ∀ x ∈ hs, (vals ns sts ins ns.length).getD x.toNat 0 = 0 ∨ (vals ns sts ins ns.length).getD x.toNat 0 = 1 := by
    intro x hx
    have hr := (marks_in hm).2 x hx
    have hw := vals_isW hn h3 h2 x.toNat (by omega)
    rw [show ((x.toNat : Nat) : Int) = x by omega, marks_one hm x hx] at hw
    rw [vals_at ns sts ins (show x.toNat < ns.length by omega)]
    have := isW_iff.1 hw
    rw [show two 1 = 2 from by decide] at this
    omega
  rw [Bool.eq_iff_iff]
  simp only [List.all_eq_true, beq_iff_eq, Bool.not_eq_true', List.any_eq_false]
  constructor
  · intro hh x hx e; have := hh x hx; omega
  · intro hh x hx; have := hh x hx; have := key x hx; omega

theorem listB_zz (l : List Int) : listB l 0 0 l = true := by
  unfold listB; simp
theorem listB_nn (e : Int) : listB [] e e [] = true := by
  unfold listB; split <;> simp
theorem nextRL_len (ns : List Nd) (xs : List (Int × Int)) (vs : List Int) : (nextRL ns xs vs).length ≤ ns.length := by
  unfold nextRL; rw [List.length_map]; exact sel_len _ _

end Go.Proofs.Ytfobcnhibhbbaaa
