/- What comes of a model: Values, and what is told ahead of it. What comes of a model: the word of each state's pair. What comes of a model: a step; what holds, and what is bad. -/
import Derived.Test.YtfobcnhibhbbaaaGreatDoorEd
namespace Go.Proofs.YtfobcnhibhbbaaaGreatDoor.Ev
open Go.RowKit
set_option maxRecDepth 100000

/-- What is wrong with a model, its states and its inputs. -/
def readyE (ns : List Nd) (is xs : List (Int × Int)) (bs hs sts ins : List Int) : Int :=
  if checkE ns is xs bs hs ≠ 0 then checkE ns is xs bs hs else if wordsE ns 3 sts ≠ 0 then wordsE ns 3 sts else wordsE ns 2 ins
/-- The words that are told beside it. -/
def valsI (ns : List Nd) (e : Int) (sts ins : List Int) : List Int := if e = 0 then vals ns sts ins ns.length else []

theorem irow_ints {w : World} {g : Nat} {l : List Int} (h : IRow w g l) : IntsAt w (some ⟨g, 0, none⟩) l := fun _ => ⟨g, 0, rfl, fun i hi => by rw [Nat.zero_add]; exact (h i hi).1⟩

theorem SL.later {w w1 : World} {v : Value} {l : List Int} (h : SL w v l) (hb : Below w.heap.size w w1) : SL w1 v l := by
  obtain ⟨p, cap, hv, hI, h1, h2⟩ := h
  exact ⟨p, cap, hv, hI.later hb, h1, h2⟩

set_option maxRecDepth 100000 in
set_option maxHeartbeats 4000000 in
theorem values_any (a0 a1 a2 a3 a4 : Option Addr) (c0 c1 c2 c3 c4 : Nat) (ns : List Nd) (is xs : List (Int × Int)) (bs hs : List Int) (hln : ns.length ≤ maxLen) (hli : is.length ≤ 8796093022208) (hlx : xs.length ≤ 8796093022208) (hlb : bs.length ≤ maxLen) (hlh : hs.length ≤ maxLen)
    (sts ins : List Int) (hls : sts.length ≤ maxLen) (hlq : ins.length ≤ maxLen) (v4 v5 : Value) (w : World)
    (hN : NodesAt w a0 ns) (hI : PairsAt w a1 is) (hX : PairsAt w a2 xs) (hBs : IntsAt w a3 bs) (hHs : IntsAt w a4 hs) (hS : SL w v4 sts) (hT : SL w v5 ins) :
    Calls Tryz.prog 36 #[Mv.val ⟨a0, c0, a1, is.length, c1, a2, xs.length, c2, a3, bs.length, c3, a4, hs.length, c4⟩ ns.length, v4, v5] w fun e w' =>
      ∃ p cap l, e = .returned (.tuple #[.slice p l.length cap, .int .i64 (readyE ns is xs bs hs sts ins)]) ∧ l = valsI ns (readyE ns is xs bs hs sts ins) sts ins ∧ IntsAt w' p l ∧ Below w.heap.size w w' := by
  obtain ⟨p4, k4, rfl, hI4, h41, h42⟩ := hS
  obtain ⟨p5, k5, rfl, hI5, h51, h52⟩ := hT
  have HB0 : Hid (Below w.heap.size w (w.alloc (.cells (Mv.cells ⟨a0, c0, a1, is.length, c1, a2, xs.length, c2, a3, bs.length, c3, a4, hs.length, c4⟩ ns.length) 26))) := bal (Below.refl _ _) _
  have HBx := hide (Box.new w ⟨a0, c0, a1, is.length, c1, a2, xs.length, c2, a3, bs.length, c3, a4, hs.length, c4⟩ ns.length)
  have HK := hide (fun _ : Unit => check_any a0 a1 a2 a3 a4 c0 c1 c2 c3 c4 ns is xs bs hs hln hli hlx hlb hlh _ (hN.later HB0.out) (hI.later HB0.out) (hX.later HB0.out) (hBs.later HB0.out) (hHs.later HB0.out))
  have HCZ := hide (@check_zero ns is xs bs hs)
  have HRE : Hid (readyE ns is xs bs hs sts ins = if checkE ns is xs bs hs ≠ 0 then checkE ns is xs bs hs else if wordsE ns 3 sts ≠ 0 then wordsE ns 3 sts else wordsE ns 2 ins) := rfl
  have HFS := hide (fun (hl : ns.length ≤ 80) (hW : Wok ns) (w1 : World) (hb : Below w.heap.size w w1) => fitW_any ⟨a0, c0, a1, is.length, c1, a2, xs.length, c2, a3, bs.length, c3, a4, hs.length, c4⟩ ns hl hW 3 sts p4 k4 hls w1 (hN.later hb) (hI4.later hb))
  have HFI := hide (fun (hl : ns.length ≤ 80) (hW : Wok ns) (w1 : World) (hb : Below w.heap.size w w1) => fitW_any ⟨a0, c0, a1, is.length, c1, a2, xs.length, c2, a3, bs.length, c3, a4, hs.length, c4⟩ ns hl hW 2 ins p5 k5 hlq w1 (hN.later hb) (hI5.later hb))
  have HWD := hide (fun (hl : ns.length ≤ 80) (hn : firstN (nodeAtE ns) ns.length = 0) (hs' : wordsE ns 3 sts = 0) (hi' : wordsE ns 2 ins = 0) (w1 : World) (hb : Below w.heap.size w w1) => words_any2 ⟨a0, c0, a1, is.length, c1, a2, xs.length, c2, a3, bs.length, c3, a4, hs.length, c4⟩ ns hl hn sts ins hs' hi' (.slice p4 sts.length k4) (.slice p5 ins.length k5) w1 (hN.later hb) ⟨p4, k4, rfl, hI4.later hb, h41, h42⟩ ⟨p5, k5, rfl, hI5.later hb, h51, h52⟩)
  have HVI : Hid (∀ e : Int, e ≠ 0 → valsI ns e sts ins = []) := fun e h => by unfold valsI; rw [if_neg h]
  have HV0 : Hid (valsI ns 0 sts ins = vals ns sts ins ns.length) := by unfold valsI; rw [if_pos rfl]; rfl
  clear hN hI hX hBs hHs hI4 hI5
  generalize checkE ns is xs bs hs = ce at *
  generalize readyE ns is xs bs hs sts ins = re at *
  generalize wordsE ns 3 sts = e3 at *
  generalize wordsE ns 2 ins = e2 at *
  go_enter Tryz.func36, Tryz.ntmps36
  go_wp2_with fail
  refine (HK.out ()).mono ?_
  rintro e w1 ⟨rfl, hb1⟩
  have HB1 := hide (bthen HB0.out hb1)
  have HX1 := hide (HBx.out.later hb1)
  have hbox := HX1.out
  simp only [Box] at hbox
  obtain ⟨q0, q1, q2, q3, q4⟩ := hbox
  clear hb1 HB0 HBx HK
  by_cases hce : ce = 0
  · subst hce
    obtain ⟨⟨hl, _, _⟩, hfn, _, _⟩ := HCZ.out rfl
    have HFN := hide hfn
    have HW := hide (nodes_ok hfn).1
    clear hfn HCZ
    go_wp2_with fail
    refine (HFS.out hl HW.out _ HB1.out).mono ?_
    rintro e w2 ⟨rfl, hb2⟩
    have HB2 := hide (bthen HB1.out hb2)
    have HX2 := hide (HX1.out.later hb2)
    clear q0 q1 q2 q3 q4
    have hbox := HX2.out
    simp only [Box] at hbox
    obtain ⟨q0, q1, q2, q3, q4⟩ := hbox
    clear hb2 HB1 HX1 HFS
    by_cases he3 : e3 = 0
    · subst he3
      go_wp2_with fail
      refine (HFI.out hl HW.out _ HB2.out).mono ?_
      rintro e w3 ⟨rfl, hb3⟩
      have HB3 := hide (bthen HB2.out hb3)
      have HX3 := hide (HX2.out.later hb3)
      clear q0 q1 q2 q3 q4
      have hbox := HX3.out
      simp only [Box] at hbox
      obtain ⟨q0, q1, q2, q3, q4⟩ := hbox
      clear hb3 HB2 HX2 HFI
      by_cases he2 : e2 = 0
      · subst he2
        have HR0 : Hid (re = 0) := by rw [HRE.out]; simp [Hid]
        clear HRE
        go_wp2_with fail
        refine (HWD.out hl HFN.out (by first | rfl | trivial) (by first | rfl | trivial) _ HB3.out).mono ?_
        rintro e w4 ⟨g, rfl, hR, hb4⟩
        go_wp2
        go_ret2
        refine ⟨some ⟨g, 0, none⟩, ns.length, vals ns sts ins ns.length, ?_, ?_, irow_ints hR, bthen HB3.out hb4⟩
        · rw [HR0.out, vals_len]; rfl
        · rw [HR0.out, HV0.out]
      · have hne : (e2 != 0) = true := by simp [he2]
        have HR0 : Hid (re = e2) := by rw [HRE.out]; simp [Hid]
        have HE := hide he2
        clear HRE he2
        go_wp2
        go_ret2
        exact ⟨none, 0, [], by rw [HR0.out]; rfl, by rw [HVI.out _ (by rw [HR0.out]; exact HE.out)], fun h => by simp at h, HB3.out⟩
    · have hne : (e3 != 0) = true := by simp [he3]
      have HR0 : Hid (re = e3) := by rw [HRE.out, if_neg (by simp), if_pos he3]; rfl
      have HE := hide he3
      clear HRE he3
      go_wp2
      go_ret2
      exact ⟨none, 0, [], by rw [HR0.out]; rfl, by rw [HVI.out _ (by rw [HR0.out]; exact HE.out)], fun h => by simp at h, HB2.out⟩
  · have hne : (ce != 0) = true := by simp [hce]
    have HR0 : Hid (re = ce) := by rw [HRE.out, if_pos hce]; rfl
    have HE := hide hce
    clear HRE hce HCZ
    go_wp2
    go_ret2
    exact ⟨none, 0, [], by rw [HR0.out]; rfl, by rw [HVI.out _ (by rw [HR0.out]; exact HE.out)], fun h => by simp at h, HB1.out⟩


/-- The node of a state's last pair; the state itself, where it has none. -/
def fromOf (s : Int) (l : List (Int × Int)) : Int := l.foldl (fun acc p => if p.1 == s then p.2 else acc) s
theorem fromOf_take (s : Int) (l : List (Int × Int)) (k : Nat) (h : k < l.length) : fromOf s (l.take (k + 1)) = if l[k].1 == s then l[k].2 else fromOf s (l.take k) := by
  unfold fromOf
  rw [List.take_succ_eq_append_getElem h, List.foldl_append]
  rfl
theorem fromOf_in {s : Int} {l : List (Int × Int)} {n : Nat} (hs : 0 ≤ s ∧ s < n) (hl : ∀ p ∈ l, 0 ≤ p.2 ∧ p.2 < n) : 0 ≤ fromOf s l ∧ fromOf s l < n := by
  unfold fromOf
  have key : ∀ (l : List (Int × Int)) (a : Int), (∀ p ∈ l, 0 ≤ p.2 ∧ p.2 < (n : Int)) → (0 ≤ a ∧ a < n) → 0 ≤ l.foldl (fun acc p => if p.1 == s then p.2 else acc) a ∧ l.foldl (fun acc p => if p.1 == s then p.2 else acc) a < n := by
    intro l
    induction l with
    | nil => intro a _ ha; exact ha
    | cons p t ih =>
      intro a hl ha
      simp only [List.foldl_cons]
      refine ih _ (fun q hq => hl q (List.mem_cons_of_mem _ hq)) ?_
      split
      · exact hl p (List.mem_cons_self ..)
      · exact ha
  exact key l s hl hs
/-- The words of all states' pairs. -/
def followL (ns : List Nd) (l : List (Int × Int)) (vs : List Int) : List Int := (sel (isK ns 3) ns.length).map (fun s => vs.getD (fromOf s l).toNat 0)

theorem owns_capN {w : World} {base n cap : Nat} {p : Option Addr} {xs : List Value} (h : w.ownsRow base 3 1 (.slice p n cap) n xs) : n ≤ cap ∧ cap ≤ maxLen := by
  rcases h.2 with ⟨h1, h0⟩ | ⟨g, cap', cur, h1, hg, hh, hn, hm, _⟩
  · injection h1 with _ _ h3
    rw [h0, h3]
    exact ⟨Nat.le_refl _, by simp [maxLen]⟩
  · injection h1 with _ _ h3
    rw [h3]
    exact ⟨hn, hm⟩

set_option maxRecDepth 100000 in
set_option maxHeartbeats 4000000 in
theorem follow_any (m : Mv) (ns : List Nd) (hl : ns.length ≤ 80) (l : List (Int × Int)) (hll : l.length ≤ 8796093022208) (hin : ∀ p ∈ l, 0 ≤ p.2 ∧ p.2 < ns.length) (vs : List Int) (hvs : vs.length = ns.length) (pp pv : Option Addr) (cp cv : Nat) (w : World) (hN : NodesAt w m.a0 ns) (hP : PairsAt w pp l) (hV : IntsAt w pv vs) :
    Calls Tryz.prog 37 #[m.val ns.length, .slice pp l.length cp, .slice pv vs.length cv] w fun e w' =>
      ∃ p cap, e = .returned (.slice p (followL ns l vs).length cap) ∧ (IntsAt w' p (followL ns l vs) ∧ (followL ns l vs).length ≤ cap ∧ cap ≤ maxLen) ∧ Below w.heap.size w w' := by
  obtain ⟨i0, hi, hz0, hz1, hz2⟩ := info_parts info3
  obtain ⟨a0, c0, a1, l1, c1, a2, l2, c2, a3, l3, c3, a4, l4, c4⟩ := m
  simp only at hN
  have HB0 : Hid (Below w.heap.size w (w.alloc (.cells (Mv.cells ⟨a0, c0, a1, l1, c1, a2, l2, c2, a3, l3, c3, a4, l4, c4⟩ ns.length) 26))) := bal (Below.refl _ _) _
  have HK := hide (fun _ : Unit => ofKind_any a0 c0 ns (by omega) 3 _ (hN.later HB0.out))
  have HBD : Hid (∀ k (h : k < (sel (isK ns 3) ns.length).length), 0 ≤ (sel (isK ns 3) ns.length)[k] ∧ (sel (isK ns 3) ns.length)[k] < ns.length) := fun k h => sel_bd h
  have hsl := sel_len (isK ns 3) ns.length
  have HFL : Hid (followL ns l vs = (sel (isK ns 3) ns.length).map (fun s => vs.getD (fromOf s l).toNat 0)) := rfl
  have HP := hide hP
  have HV := hide hV
  have HIn := hide hin
  have HVL := hide hvs
  clear hN hP hV hin hvs
  generalize followL ns l vs = F at *
  generalize sel (isK ns 3) ns.length = S at *
  go_enter Tryz.func37, Tryz.ntmps37
  go_wp2_with fail
  refine (HK.out ()).mono ?_
  rintro e w1 ⟨q, qc, rfl, hQ, hb1⟩
  have HB1 := hide (bthen HB0.out hb1)
  have HQ := hide hQ
  clear hb1 hQ HB0 HK
  go_wp2
  go_loopw [7, 17] (fun v i wr => ∃ k : Nat, k ≤ S.length ∧ i = .int .i64 k ∧ wr.ownsRow w1.heap.size 3 1 v ((S.take k).map (fun s => vs.getD (fromOf s l).toNat 0)).length (((S.take k).map (fun s => vs.getD (fromOf s l).toNat 0)).map (Value.int .i64)) ∧ Below w1.heap.size w1 wr) (fun _ i _ => S.length - (intOf i).toNat)
  case atStart => exact ⟨0, Nat.zero_le _, rfl, World.ownsRow_nil _ _ _ _, Below.refl _ _⟩
  case round =>
  obtain ⟨k, hk, rfl, hown, hbw⟩ := hrel
  by_cases hlt : k < S.length
  · obtain ⟨b, off, rfl, hc⟩ := (HQ.out.later hbw) (by omega)
    have d0 := hc k hlt
    have hkl : (k : Int) < (S.length : Int) := by omega
    obtain ⟨s0, s1⟩ := HBD.out k hlt
    have HS : Hid ((S.take (k + 1)).map (fun s => vs.getD (fromOf s l).toNat 0) = (S.take k).map (fun s => vs.getD (fromOf s l).toNat 0) ++ [vs.getD (fromOf S[k] l).toNat 0]) := by
      rw [List.take_succ_eq_append_getElem hlt, List.map_append]; rfl
    have hlen : ((S.take k).map (fun s => vs.getD (fromOf s l).toNat 0)).length ≤ 80 := by simp; omega
    clear hc
    generalize S[k] = s at *
    generalize (S.take k).map (fun s => vs.getD (fromOf s l).toNat 0) = F0 at *
    have HFI := hide (fromOf_in (n := ns.length) ⟨s0, s1⟩ HIn.out)
    go_wp2
    go_loopw [10, 24] (fun f j wq => ∃ jj : Nat, jj ≤ l.length ∧ j = .int .i64 jj ∧ f = .int .i64 (fromOf s (l.take jj)) ∧ wq.ownsRow w1.heap.size 3 1 u7 F0.length (F0.map (Value.int .i64)) ∧ Below w1.heap.size w1 wq) (fun _ j _ => l.length - (intOf j).toNat)
    case atStart => exact ⟨0, Nat.zero_le _, rfl, rfl, hown, hbw⟩
    case round =>
      clear hown hbw
      obtain ⟨j, hj, rfl, rfl, hown, hbw⟩ := hrel
      by_cases hlt2 : j < l.length
      · obtain ⟨b2, off2, rfl, hc2⟩ := (HP.out.later (bthen HB1.out hbw)) (by omega)
        obtain ⟨e0, e1⟩ := hc2 j hlt2
        have HT := hide (fromOf_take s l j hlt2)
        have hjl : (j : Int) < (l.length : Int) := by omega
        clear hc2
        generalize l[j] = pr at *
        obtain ⟨t, y⟩ := pr
        simp only at e0 e1 HT
        cases hf : (t == s)
        · have HS2 : Hid (fromOf s (l.take (j + 1)) = fromOf s (l.take j)) := by rw [HT.out, hf]; simp [Hid]
          clear HT
          go_wp2
          go_roundw
          case rel => first | exact ⟨j + 1, by omega, by go_num, by rw [HS2.out], hown.alloc _, bal hbw _⟩ | ((repeat apply Exists.intro); exact ⟨⟨j + 1, by omega, by go_num, by rw [HS2.out], hown.alloc _, bal hbw _⟩, rfl⟩)
          case measure => simp [intOf]; omega
        · have HS2 : Hid (fromOf s (l.take (j + 1)) = y) := by rw [HT.out, hf]; simp [Hid]
          clear HT
          go_wp2
          go_roundw
          case rel => first | exact ⟨j + 1, by omega, by go_num, by rw [HS2.out], hown.alloc _, bal hbw _⟩ | ((repeat apply Exists.intro); exact ⟨⟨j + 1, by omega, by go_num, by rw [HS2.out], hown.alloc _, bal hbw _⟩, rfl⟩)
          case measure => simp [intOf]; omega
      · obtain rfl : j = l.length := by omega
        rw [List.take_length]
        obtain ⟨f0, f1⟩ := HFI.out
        have hvl := HVL.out
        obtain ⟨b3, off3, rfl, hc3⟩ := (HV.out.later (bthen HB1.out hbw)) (by omega)
        have e3 := hc3 (fromOf s l).toNat (by omega)
        rw [← getD_at] at e3
        have hsz := hbw.size
        have hfv : fromOf s l < (vs.length : Int) := by omega
        generalize vs.getD (fromOf s l).toNat 0 = wv at *
        generalize fromOf s l = f at *
        clear hc3
        have HVL2 := hide hvl
        clear hvl
        go_wp2_with (at_builtin; refine wpList_append_own _ rfl _ _ 24 rfl w1.heap.size 3 i0 (.int .i64 0) 1 8 Tryz.underlying24 hi hz0 hz1 hz2 rfl (by decide) _ _ _ rfl (hown.alloc _) ⟨wr.heap.size, 0, none⟩ 1 1 [.int .i64 wv] rfl rfl ?c1 ?c2 ?c3 ?c4 ?c5 ?_)
        case c1 =>
          intro j u hj
          match j, hj with
          | 0, hj => simp at hj; subst hj; simp [Addr.add]
        case c2 => intro u hu; simp at hu; subst hu; rfl
        case c3 => unfold maxLen; omega
        case c4 => omega
        case c5 => simp; omega
        intro v' w2 hown' hgrow _
        have R := owns_later hown hown' hgrow hbw hsz
        rw [← HS.out] at R
        clear hown' hgrow hown
        go_wp2
        go_roundw
        case rel => first | exact ⟨k + 1, by omega, by go_num, R.1, R.2⟩ | ((repeat apply Exists.intro); exact ⟨⟨k + 1, by omega, by go_num, R.1, R.2⟩, rfl⟩)
        case measure => simp [intOf]; omega
  · obtain rfl : k = S.length := by omega
    rw [List.take_length, ← HFL.out] at hown
    obtain ⟨p, cap, rfl, hJ⟩ := owns_ints hown
    have HCP := hide (owns_capN hown)
    go_wp2
    go_ret
    exact ⟨p, cap, rfl, ⟨hJ, HCP.out⟩, bthen HB1.out hbw⟩


theorem ready_zero {ns : List Nd} {is xs : List (Int × Int)} {bs hs sts ins : List Int} (h : readyE ns is xs bs hs sts ins = 0) : checkE ns is xs bs hs = 0 ∧ wordsE ns 3 sts = 0 ∧ wordsE ns 2 ins = 0 := by
  unfold readyE at h
  by_cases h1 : checkE ns is xs bs hs = 0
  · rw [if_neg (by simp [h1])] at h
    by_cases h2 : wordsE ns 3 sts = 0
    · rw [if_neg (by simp [h2])] at h
      exact ⟨h1, h2, h⟩
    · rw [if_pos h2] at h; exact absurd h h2
  · rw [if_pos h1] at h; exact absurd h h1

theorem marks_in {ns : List Nd} {xs : List (Int × Int)} {bs hs : List Int} (h : marksE ns xs bs hs = 0) : (∀ x ∈ bs, 0 ≤ x ∧ x < ns.length) ∧ (∀ x ∈ hs, 0 ≤ x ∧ x < ns.length) := by
  unfold marksE at h
  split at h
  · omega
  · split at h
    · omega
    · rename_i h2
      simp only [Bool.or_eq_true, not_or, Bool.not_eq_true] at h2
      refine ⟨fun x hx => isN_true.1 ?_, fun x hx => isN_true.1 ?_⟩
      · have := List.any_eq_false.1 h2.1 x hx; simpa using this
      · have := List.any_eq_false.1 h2.2 x hx; simpa using this

def nextI (ns : List Nd) (xs : List (Int × Int)) (e : Int) (sts ins : List Int) : List Int := if e = 0 then followL ns xs (vals ns sts ins ns.length) else []

set_option maxRecDepth 100000 in
set_option maxHeartbeats 4000000 in
theorem step_any (a0 a1 a2 a3 a4 : Option Addr) (c0 c1 c2 c3 c4 : Nat) (ns : List Nd) (is xs : List (Int × Int)) (bs hs : List Int) (hln : ns.length ≤ maxLen) (hli : is.length ≤ 8796093022208) (hlx : xs.length ≤ 8796093022208) (hlb : bs.length ≤ maxLen) (hlh : hs.length ≤ maxLen)
    (sts ins : List Int) (hls : sts.length ≤ maxLen) (hlq : ins.length ≤ maxLen) (v4 v5 : Value) (w : World)
    (hN : NodesAt w a0 ns) (hI : PairsAt w a1 is) (hX : PairsAt w a2 xs) (hBs : IntsAt w a3 bs) (hHs : IntsAt w a4 hs) (hS : SL w v4 sts) (hT : SL w v5 ins) :
    Calls Tryz.prog 33 #[Mv.val ⟨a0, c0, a1, is.length, c1, a2, xs.length, c2, a3, bs.length, c3, a4, hs.length, c4⟩ ns.length, v4, v5] w fun e w' =>
      ∃ p cap l, e = .returned (.tuple #[.slice p l.length cap, .int .i64 (readyE ns is xs bs hs sts ins)]) ∧ l = nextI ns xs (readyE ns is xs bs hs sts ins) sts ins ∧ (IntsAt w' p l ∧ l.length ≤ cap ∧ cap ≤ maxLen) ∧ Below w.heap.size w w' := by
  have HB0 : Hid (Below w.heap.size w (w.alloc (.cells (Mv.cells ⟨a0, c0, a1, is.length, c1, a2, xs.length, c2, a3, bs.length, c3, a4, hs.length, c4⟩ ns.length) 26))) := bal (Below.refl _ _) _
  have HBx := hide (Box.new w ⟨a0, c0, a1, is.length, c1, a2, xs.length, c2, a3, bs.length, c3, a4, hs.length, c4⟩ ns.length)
  have HK := hide (fun _ : Unit => values_any a0 a1 a2 a3 a4 c0 c1 c2 c3 c4 ns is xs bs hs hln hli hlx hlb hlh sts ins hls hlq v4 v5 _ (hN.later HB0.out) (hI.later HB0.out) (hX.later HB0.out) (hBs.later HB0.out) (hHs.later HB0.out) (hS.later HB0.out) (hT.later HB0.out))
  have HRZ := hide (@ready_zero ns is xs bs hs sts ins)
  have HN := hide hN
  have HX := hide hX
  have HBs := hide hBs
  have HHs := hide hHs
  have HFO := hide (fun (hl : ns.length ≤ 80) (hin : ∀ p ∈ xs, 0 ≤ p.2 ∧ p.2 < (ns.length : Int)) (vs : List Int) (hvs : vs.length = ns.length) (pv : Option Addr) (cv : Nat) (w1 : World) (hb : Below w.heap.size w w1) (hV : IntsAt w1 pv vs) => follow_any ⟨a0, c0, a1, is.length, c1, a2, xs.length, c2, a3, bs.length, c3, a4, hs.length, c4⟩ ns hl xs hlx hin vs hvs a2 pv c2 cv w1 (hN.later hb) (hX.later hb) hV)
  have HV0 : Hid (valsI ns 0 sts ins = vals ns sts ins ns.length) := by unfold valsI; rw [if_pos rfl]; rfl
  have HN0 : Hid (nextI ns xs 0 sts ins = followL ns xs (vals ns sts ins ns.length)) := by unfold nextI; rw [if_pos rfl]; rfl
  have HNE : Hid (∀ e : Int, e ≠ 0 → nextI ns xs e sts ins = []) := fun e h => by unfold nextI; rw [if_neg h]
  clear hN hI hX hBs hHs hS hT
  generalize readyE ns is xs bs hs sts ins = re at *
  go_enter Tryz.func33, Tryz.ntmps33
  go_wp2_with fail
  refine (HK.out ()).mono ?_
  rintro e w1 ⟨p1, k1, l, rfl, hl1, hJ1, hb1⟩
  have HB1 := hide (bthen HB0.out hb1)
  have HX1 := hide (HBx.out.later hb1)
  have HJ1 := hide hJ1
  have HL1 := hide hl1
  have hbox := HX1.out
  simp only [Box] at hbox
  obtain ⟨q0, q1, q2, q3, q4⟩ := hbox
  clear hb1 HB0 HBx hJ1 HK hl1
  by_cases hre : re = 0
  · subst hre
    obtain ⟨hck, _, _⟩ := HRZ.out rfl
    obtain ⟨⟨hl, _, _⟩, _, hps, _⟩ := check_zero hck
    have HPX := hide (pairs_zero hps).2.1
    have HLV : Hid (l = vals ns sts ins ns.length) := HL1.out.trans HV0.out
    have HLen : Hid (l.length = ns.length) := by rw [HLV.out, vals_len]; rfl
    rw [← HLV.out] at HN0
    have HF := hide (fun _ : Unit => HFO.out hl (fun p hp => (pairE_zero (HPX.out p hp)).2.1) l HLen.out p1 k1 w1 HB1.out HJ1.out)
    clear HRZ hck hps HFO
    go_wp2_with fail
    refine (HF.out ()).mono ?_
    rintro e w2 ⟨p2, k2, rfl, hJ2, hb2⟩
    go_wp2
    go_ret2
    exact ⟨p2, k2, followL ns xs l, rfl, HN0.out.symm, hJ2, bthen HB1.out hb2⟩
  · have hne : (re != 0) = true := by simp [hre]
    have HE := hide (HNE.out re hre)
    clear hre HRZ HFO
    go_wp2
    go_ret2
    exact ⟨none, 0, [], rfl, HE.out.symm, ⟨fun h => by simp at h, by simp, by simp [maxLen]⟩, HB1.out⟩

theorem enter75' (args : Array Value) (w : World) : (callFunc 81 args).run Tryz.prog w = .ok (.enter 81 args) w := by kernel_rfl
theorem enter76' (args : Array Value) (w : World) : (callFunc 82 args).run Tryz.prog w = .ok (.enter 82 args) w := by kernel_rfl

set_option maxHeartbeats 400000 in
theorem look75_any (x : Int) (B : Nat) (vs : List Int) (pv : Option Addr) (cv : Nat) (hl : vs.length ≤ 80) (h0 : 0 ≤ x) (h1 : x < vs.length) (w : World) (hB : w.cell? ⟨B, 0, none⟩ = some (.slice pv vs.length cv)) (hV : IntsAt w pv vs) :
    Calls Tryz.prog 81 #[.int .i64 x, .pointer (some ⟨B, 0, none⟩)] w fun e w' => e = .returned (.bool (vs.getD x.toNat 0 == 0)) ∧ Below w.heap.size w w' := by
  obtain ⟨b, off, rfl, hc⟩ := hV (by omega)
  have d0 := hc x.toNat (by omega)
  rw [← getD_at] at d0
  clear hc hV
  generalize vs.getD x.toNat 0 = y at *
  go_enter Tryz.func81, Tryz.ntmps81
  go_wp2
  go_ret
  exact ⟨rfl, Below.refl _ _⟩

theorem lookL75_any (l : List Int) (hll : l.length ≤ maxLen) (p : Option Addr) (cap : Nat) (B : Nat) (vs : List Int) (pv : Option Addr) (cv : Nat) (hl : vs.length ≤ 80) (hin : ∀ x ∈ l, 0 ≤ x ∧ x < vs.length) (w : World) (hI : IntsAt w p l) (hB : w.cell? ⟨B, 0, none⟩ = some (.slice pv vs.length cv)) (hV : IntsAt w pv vs) :
    Calls Tryz.prog 40 #[.slice p l.length cap, .func (.func 81) #[] #[.pointer (some ⟨B, 0, none⟩)]] w fun e w' => e = .returned (.bool (l.any (fun x => vs.getD x.toNat 0 == 0))) ∧ Below w.heap.size w w' :=
  containsFunc_any 81 _ _ l p cap w hll hI enter75' fun _ hb i hi => look75_any l[i] B vs pv cv hl (hin _ (List.getElem_mem hi)).1 (hin _ (List.getElem_mem hi)).2 _ (cell_later hb hB) (hV.later hb)

set_option maxHeartbeats 400000 in
theorem look76_any (x : Int) (B : Nat) (vs : List Int) (pv : Option Addr) (cv : Nat) (hl : vs.length ≤ 80) (h0 : 0 ≤ x) (h1 : x < vs.length) (w : World) (hB : w.cell? ⟨B, 0, none⟩ = some (.slice pv vs.length cv)) (hV : IntsAt w pv vs) :
    Calls Tryz.prog 82 #[.int .i64 x, .pointer (some ⟨B, 0, none⟩)] w fun e w' => e = .returned (.bool (vs.getD x.toNat 0 == 1)) ∧ Below w.heap.size w w' := by
  obtain ⟨b, off, rfl, hc⟩ := hV (by omega)
  have d0 := hc x.toNat (by omega)
  rw [← getD_at] at d0
  clear hc hV
  generalize vs.getD x.toNat 0 = y at *
  go_enter Tryz.func82, Tryz.ntmps82
  go_wp2
  go_ret
  exact ⟨rfl, Below.refl _ _⟩

theorem lookL76_any (l : List Int) (hll : l.length ≤ maxLen) (p : Option Addr) (cap : Nat) (B : Nat) (vs : List Int) (pv : Option Addr) (cv : Nat) (hl : vs.length ≤ 80) (hin : ∀ x ∈ l, 0 ≤ x ∧ x < vs.length) (w : World) (hI : IntsAt w p l) (hB : w.cell? ⟨B, 0, none⟩ = some (.slice pv vs.length cv)) (hV : IntsAt w pv vs) :
    Calls Tryz.prog 40 #[.slice p l.length cap, .func (.func 82) #[] #[.pointer (some ⟨B, 0, none⟩)]] w fun e w' => e = .returned (.bool (l.any (fun x => vs.getD x.toNat 0 == 1))) ∧ Below w.heap.size w w' :=
  containsFunc_any 82 _ _ l p cap w hll hI enter76' fun _ hb i hi => look76_any l[i] B vs pv cv hl (hin _ (List.getElem_mem hi)).1 (hin _ (List.getElem_mem hi)).2 _ (cell_later hb hB) (hV.later hb)

/-- Do all hold? -/
def holdsI (hs : List Int) (e : Int) (vs : List Int) : Bool := if e = 0 then !hs.any (fun x => vs.getD x.toNat 0 == 0) else false
/-- Is one bad? -/
def badI (bs : List Int) (e : Int) (vs : List Int) : Bool := if e = 0 then bs.any (fun x => vs.getD x.toNat 0 == 1) else false

set_option maxRecDepth 100000 in
set_option maxHeartbeats 4000000 in
theorem courseLook_any (m : Mv) (n : Nat) (bs hs : List Int) (hlb : bs.length ≤ maxLen) (hlh : hs.length ≤ maxLen) (h3 : m.l3 = bs.length) (h4 : m.l4 = hs.length) (l : List Int) (hl : l.length ≤ 80) (hib : ∀ x ∈ bs, 0 ≤ x ∧ x < l.length) (hih : ∀ x ∈ hs, 0 ≤ x ∧ x < l.length) (p1 : Option Addr) (k1 : Nat) (w : World) (hBs : IntsAt w m.a3 bs) (hHs : IntsAt w m.a4 hs) (hV : IntsAt w p1 l) :
    Calls Tryz.prog 63 #[m.val n, .slice p1 l.length k1] w fun e w' =>
      e = .returned (.tuple #[.bool (!hs.any (fun x => l.getD x.toNat 0 == 0)), .bool (bs.any (fun x => l.getD x.toNat 0 == 1))]) ∧ Below w.heap.size w w' := by
  have hmf : ∀ (fn : Fn) (first cap : Array Value) (w : World), (Instr.makeFunc fn first cap).run Tryz.prog w = .ok (.func fn first cap) w := fun _ _ _ _ => rfl
  obtain ⟨a0, c0, a1, l1, c1, a2, l2, c2, a3, l3, c3, a4, l4, c4⟩ := m
  simp only at h3 h4 hBs hHs
  subst h3 h4
  have HB2 : Hid (Below w.heap.size w ((w.alloc (.cells (Mv.cells ⟨a0, c0, a1, l1, c1, a2, l2, c2, a3, bs.length, c3, a4, hs.length, c4⟩ n) 26)).alloc (.cells #[.slice p1 l.length k1] 24))) := bal (bal (Below.refl _ _) _) _
  have HX2 : Hid (Box ((w.alloc (.cells (Mv.cells ⟨a0, c0, a1, l1, c1, a2, l2, c2, a3, bs.length, c3, a4, hs.length, c4⟩ n) 26)).alloc (.cells #[.slice p1 l.length k1] 24)) w.heap.size ⟨a0, c0, a1, l1, c1, a2, l2, c2, a3, bs.length, c3, a4, hs.length, c4⟩ n) := hide ((Box.new w ⟨a0, c0, a1, l1, c1, a2, l2, c2, a3, bs.length, c3, a4, hs.length, c4⟩ n).later (bal (Below.refl _ _) _))
  have b9 : ((w.alloc (.cells (Mv.cells ⟨a0, c0, a1, l1, c1, a2, l2, c2, a3, bs.length, c3, a4, hs.length, c4⟩ n) 26)).alloc (.cells #[.slice p1 l.length k1] 24)).cell? ⟨w.heap.size + 1, 0, none⟩ = some (.slice p1 l.length k1) := by simp [go_sem]
  have HJ2 := hide (hV.later HB2.out)
  have HBs := hide hBs
  have HHs := hide hHs
  have hbox := HX2.out
  simp only [Box] at hbox
  obtain ⟨q0, q1, q2, q3, q4⟩ := hbox
  clear hBs hHs hV HX2
  generalize hr1 : hs.any (fun x => l.getD x.toNat 0 == 0) = rH
  generalize hr2 : bs.any (fun x => l.getD x.toNat 0 == 1) = rB
  go_enter Tryz.func63, Tryz.ntmps63
  go_wp2_with fail
  generalize (w.alloc (.cells (Mv.cells ⟨a0, c0, a1, l1, c1, a2, l2, c2, a3, bs.length, c3, a4, hs.length, c4⟩ n) 26)).alloc (.cells #[.slice p1 l.length k1] 24) = w9 at *
  have HCH := hide (fun (w2 : World) (hb : Below w9.heap.size w9 w2) => lookL75_any hs hlh a4 c4 (w.heap.size + 1) l p1 k1 hl hih w2 (HHs.out.later (bthen HB2.out hb)) (cell_later hb b9) (HJ2.out.later hb))
  have HCB := hide (fun (w2 : World) (hb : Below w9.heap.size w9 w2) => lookL76_any bs hlb a3 c3 (w.heap.size + 1) l p1 k1 hl hib w2 (HBs.out.later (bthen HB2.out hb)) (cell_later hb b9) (HJ2.out.later hb))
  rw [hr1] at HCH
  rw [hr2] at HCB
  clear hr1 hr2
  go_region_held3 (fun w' => w'.cell? ⟨w.heap.size, 3, none⟩ = some (.slice a3 bs.length c3) ∧ w'.cell? ⟨w.heap.size, 4, none⟩ = some (.slice a4 hs.length c4))
    (first | exact ⟨q3, q4⟩ | exact ⟨cell_later hbH q3, cell_later hbH q4⟩ | exact ⟨cell_later hbB q3, cell_later hbB q4⟩ | exact ⟨cell_later hbB (cell_later hbH q3), cell_later hbB (cell_later hbH q4)⟩ | exact ⟨cell_later hbH (cell_later hbB q3), cell_later hbH (cell_later hbB q4)⟩ | go_keep)
    (first | (go_at_call_of 40 (Value.slice a4 hs.length c4); refine (HCH.out _ (by first | exact (Below.refl _ _).drew | exact (Below.refl _ _).drew.trans hbB)).mono ?_; rintro e wH ⟨rfl, hbH⟩) | (go_at_call_of 40 (Value.slice a3 bs.length c3); refine (HCB.out _ (by first | exact (Below.refl _ _).drew | exact (Below.refl _ _).drew.trans hbH)).mono ?_; rintro e wB ⟨rfl, hbB⟩))
  all_goals
    go_wp2
    go_ret2
    refine ⟨by rfl, ?_⟩
    first
      | exact bthen HB2.out (bthen ((Below.refl _ _).drew.trans hbH) hbB)
      | exact bthen HB2.out (bthen ((Below.refl _ _).drew.trans hbB) hbH)

set_option maxRecDepth 100000 in
set_option maxHeartbeats 4000000 in
theorem look_any (a0 a1 a2 a3 a4 : Option Addr) (c0 c1 c2 c3 c4 : Nat) (ns : List Nd) (is xs : List (Int × Int)) (bs hs : List Int) (hln : ns.length ≤ maxLen) (hli : is.length ≤ 8796093022208) (hlx : xs.length ≤ 8796093022208) (hlb : bs.length ≤ maxLen) (hlh : hs.length ≤ maxLen)
    (sts ins : List Int) (hls : sts.length ≤ maxLen) (hlq : ins.length ≤ maxLen) (v4 v5 : Value) (w : World)
    (hN : NodesAt w a0 ns) (hI : PairsAt w a1 is) (hX : PairsAt w a2 xs) (hBs : IntsAt w a3 bs) (hHs : IntsAt w a4 hs) (hS : SL w v4 sts) (hT : SL w v5 ins) :
    Calls Tryz.prog 34 #[Mv.val ⟨a0, c0, a1, is.length, c1, a2, xs.length, c2, a3, bs.length, c3, a4, hs.length, c4⟩ ns.length, v4, v5] w fun e w' =>
      e = .returned (.tuple #[.bool (holdsI hs (readyE ns is xs bs hs sts ins) (vals ns sts ins ns.length)), .bool (badI bs (readyE ns is xs bs hs sts ins) (vals ns sts ins ns.length)), .int .i64 (readyE ns is xs bs hs sts ins)]) ∧ Below w.heap.size w w' := by
  have HB0 : Hid (Below w.heap.size w (w.alloc (.cells (Mv.cells ⟨a0, c0, a1, is.length, c1, a2, xs.length, c2, a3, bs.length, c3, a4, hs.length, c4⟩ ns.length) 26))) := bal (Below.refl _ _) _
  have HBx := hide (Box.new w ⟨a0, c0, a1, is.length, c1, a2, xs.length, c2, a3, bs.length, c3, a4, hs.length, c4⟩ ns.length)
  have HK := hide (fun _ : Unit => values_any a0 a1 a2 a3 a4 c0 c1 c2 c3 c4 ns is xs bs hs hln hli hlx hlb hlh sts ins hls hlq v4 v5 _ (hN.later HB0.out) (hI.later HB0.out) (hX.later HB0.out) (hBs.later HB0.out) (hHs.later HB0.out) (hS.later HB0.out) (hT.later HB0.out))
  have HRZ := hide (@ready_zero ns is xs bs hs sts ins)
  have HN := hide hN
  have HX := hide hX
  have HBs := hide hBs
  have HHs := hide hHs
  have HV0 : Hid (valsI ns 0 sts ins = vals ns sts ins ns.length) := by unfold valsI; rw [if_pos rfl]; rfl
  have HH1 : Hid (readyE ns is xs bs hs sts ins = 0 → holdsI hs (readyE ns is xs bs hs sts ins) (vals ns sts ins ns.length) = !hs.any (fun x => (vals ns sts ins ns.length).getD x.toNat 0 == 0)) := fun h => by unfold holdsI; rw [if_pos h]
  have HH2 : Hid (readyE ns is xs bs hs sts ins = 0 → badI bs (readyE ns is xs bs hs sts ins) (vals ns sts ins ns.length) = bs.any (fun x => (vals ns sts ins ns.length).getD x.toNat 0 == 1)) := fun h => by unfold badI; rw [if_pos h]
  have HHE : Hid (readyE ns is xs bs hs sts ins ≠ 0 → holdsI hs (readyE ns is xs bs hs sts ins) (vals ns sts ins ns.length) = false ∧ badI bs (readyE ns is xs bs hs sts ins) (vals ns sts ins ns.length) = false) := fun h => by unfold holdsI badI; rw [if_neg h, if_neg h]; exact ⟨rfl, rfl⟩
  clear hN hI hX hBs hHs hS hT
  generalize holdsI hs (readyE ns is xs bs hs sts ins) (vals ns sts ins ns.length) = hB at *
  generalize badI bs (readyE ns is xs bs hs sts ins) (vals ns sts ins ns.length) = bB at *
  generalize readyE ns is xs bs hs sts ins = re at *
  go_enter Tryz.func34, Tryz.ntmps34
  go_wp2_with fail
  refine (HK.out ()).mono ?_
  rintro e w1 ⟨p1, k1, l, rfl, hl1, hJ1, hb1⟩
  have HB1 := hide (bthen HB0.out hb1)
  have HX1 := hide (HBx.out.later hb1)
  have HJ2 := hide hJ1
  have HL1 := hide hl1
  have hbox := HX1.out
  simp only [Box] at hbox
  obtain ⟨q0, q1, q2, q3, q4⟩ := hbox
  clear hb1 HB0 HBx hJ1 HK hl1
  by_cases hre : re = 0
  · subst hre
    obtain ⟨hck, _, _⟩ := HRZ.out rfl
    obtain ⟨⟨hl, _, _⟩, _, _, hmk⟩ := check_zero hck
    have HMI := hide (marks_in hmk)
    have HLV : Hid (l = vals ns sts ins ns.length) := HL1.out.trans HV0.out
    have HLen : Hid (l.length = ns.length) := by rw [HLV.out, vals_len]; rfl
    have HhB := hide (HH1.out rfl)
    have HbB := hide (HH2.out rfl)
    rw [← HLV.out] at HhB HbB
    have HCL := hide (courseLook_any ⟨a0, c0, a1, is.length, c1, a2, xs.length, c2, a3, bs.length, c3, a4, hs.length, c4⟩ ns.length bs hs hlb hlh rfl rfl l (by rw [HLen.out]; exact hl) (fun x hx => by rw [HLen.out]; exact HMI.out.1 x hx) (fun x hx => by rw [HLen.out]; exact HMI.out.2 x hx) p1 k1 w1 (HBs.out.later HB1.out) (HHs.out.later HB1.out) HJ2.out)
    clear HRZ hck hmk HHE HH1 HH2
    go_wp2_with fail
    refine HCL.out.mono ?_
    rintro e w2 ⟨rfl, hb2⟩
    go_wp2
    go_ret3
    exact ⟨by rw [HhB.out, HbB.out]; rfl, bthen HB1.out hb2⟩
  · have hne : (re != 0) = true := by simp [hre]
    have HZ := hide (HHE.out hre)
    clear hre HRZ HHE HH1 HH2
    go_wp2
    go_ret3
    exact ⟨by rw [HZ.out.1, HZ.out.2]; rfl, HB1.out⟩

end Go.Proofs.YtfobcnhibhbbaaaGreatDoor.Ev
