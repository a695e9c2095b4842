/- The plain text: nodes of a kind, their bits; lists that are the same. -/
import Derived.Test.YtabnimgpednhjaaGreatDoorNaM
import Derived.Test.YtabnimgpednhjaaGreatDoorNc
namespace Go.Proofs.YtabnimgpednhjaaGreatDoor.Ev
open Go.RowKit
set_option maxRecDepth 100000

set_option maxRecDepth 100000 in
set_option maxHeartbeats 1000000 in
theorem nodesR_any (m : Mv) (ns : List Nd) (hl : ns.length ≤ 2932031007402) (kind : Int) (w : World) (hN : NodesAt w m.a0 ns) :
    Calls Tryz.prog 21 #[m.val ns.length, .int .i64 kind] w fun e w' =>
      ∃ p cap, e = .returned (.slice p (sel (isK ns kind) ns.length).length cap) ∧ IntsAt w' p (sel (isK ns kind) ns.length) ∧ Below w.heap.size w w' := by
  obtain ⟨i0, hi, hz0, hz1, hz2⟩ := info_parts info3
  obtain ⟨a0, c0, a1, l1, c1, a2, l2, c2, a3, l3, c3, a4, l4, c4⟩ := m
  simp only at hN
  have HBx := hide (Box.new w ⟨a0, c0, a1, l1, c1, a2, l2, c2, a3, l3, c3, a4, l4, c4⟩ ns.length)
  go_enter Tryz.func21, Tryz.ntmps21
  go_wp2
  go_loopw [5, 6] (fun v i wr => ∃ k : Nat, k ≤ ns.length ∧ i = .int .i64 k ∧ wr.ownsRow (w.heap.size + 1) 3 1 v (sel (isK ns kind) k).length ((sel (isK ns kind) k).map (Value.int .i64)) ∧ Below (w.heap.size + 1) (w.alloc (.cells (Mv.cells ⟨a0, c0, a1, l1, c1, a2, l2, c2, a3, l3, c3, a4, l4, c4⟩ ns.length) 26)) wr) (fun _ i _ => ns.length - (intOf i).toNat)
  case atStart => exact ⟨0, Nat.zero_le _, rfl, World.ownsRow_nil _ _ _ _, Below.refl _ _⟩
  case round =>
    obtain ⟨k, hk, rfl, hown, hnx⟩ := hrel
    have hbw : Below w.heap.size w wr := (bal (Below.refl _ _) _).trans (hnx.mono (by omega))
    have hsz := hnx.size
    have hbx := HBx.out.1
    have q0 : wr.cell? ⟨w.heap.size, 0, none⟩ = some (.slice a0 ns.length c0) := (hnx.cell (show w.heap.size < w.heap.size + 1 from by omega)).trans hbx
    clear hbx
    by_cases hlt : k < ns.length
    · obtain ⟨b, off, rfl, hc⟩ := (hN.later hbw) (by omega)
      have d0 := (hc k hlt).1
      have HI := hide (isK_at (kind := kind) hlt)
      clear hc
      generalize ns[k] = nd at *
      obtain ⟨kd, v, x, y, z, n⟩ := nd
      simp only at *
      cases hf : (kd == kind)
      · have HS : Hid (sel (isK ns kind) (k + 1) = sel (isK ns kind) k) := sel_no (by rw [HI.out, hf])
        clear HI
        go_wp2
        go_roundw
        case rel => exact ⟨k + 1, by omega, by go_num, by rw [HS.out]; exact hown, hnx⟩
        case measure => simp [intOf]; omega
      · have HS : Hid (sel (isK ns kind) (k + 1) = sel (isK ns kind) k ++ [(k : Int)]) := sel_yes (by rw [HI.out, hf])
        have hsl := sel_len (isK ns kind) k
        clear HI
        generalize sel (isK ns kind) k = l at *
        go_wp2_with (at_builtin; refine wpList_append_own _ rfl _ _ 24 rfl (w.heap.size + 1) 3 i0 (.int .i64 0) 1 8 Tryz.underlying24 hi hz0 hz1 hz2 rfl (by decide) _ _ _ rfl (hown.alloc _) ⟨wr.heap.size, 0, none⟩ 1 1 [.int .i64 (k : Int)] rfl rfl ?c1 ?c2 ?c3 ?c4 ?c5 ?_)
        case c1 =>
          intro j u hj
          match j, hj with
          | 0, hj => simp at hj; subst hj; simp [Addr.add]
        case c2 => intro u hu; simp at hu; subst hu; rfl
        case c3 => unfold maxLen; omega
        case c4 => omega
        case c5 => simp; simp at hsz; omega
        intro v' w1 hown' hgrow _
        have R := owns_later hown hown' hgrow hnx (by simp at hsz; omega)
        rw [← HS.out] at R
        clear hown' hgrow hown
        go_wp2
        go_roundw
        case rel => exact ⟨k + 1, by omega, by go_num, R.1, R.2⟩
        case measure => simp [intOf]; omega
    · obtain rfl : k = ns.length := by omega
      obtain ⟨p, cap, rfl, hI⟩ := owns_ints hown
      go_wp2
      go_ret
      exact ⟨p, cap, rfl, hI, hbw⟩

/-- The bits of the first k nodes of a kind. -/
theorem sum_sel (ns : List Nd) (kind : Int) (k : Nat) : sumW ns (sel (isK ns kind) (k + 1)) = sumW ns (sel (isK ns kind) k) + if isK ns kind k then wdOf ns k else 0 := by
  cases h : isK ns kind k
  · rw [sel_no h]; simp
  · rw [sel_yes h]
    unfold sumW
    simp only [List.map_append, List.sum_append, List.map_cons, List.map_nil, List.sum_cons, List.sum_nil]
    simp

theorem sum_sel_bd {ns : List Nd} (h : Wok ns) (kind : Int) (k : Nat) : 0 ≤ sumW ns (sel (isK ns kind) k) ∧ sumW ns (sel (isK ns kind) k) ≤ 8 * k := by
  induction k with
  | zero => simp [sumW, sel]
  | succ k ih =>
    rw [sum_sel]
    have := wdOf_bd h k
    split <;> omega

set_option maxRecDepth 100000 in
set_option maxHeartbeats 1000000 in
theorem bitsR_any (m : Mv) (ns : List Nd) (hl : ns.length ≤ 80) (hW : Wok ns) (kind : Int) (w : World) (hN : NodesAt w m.a0 ns) :
    Calls Tryz.prog 18 #[m.val ns.length, .int .i64 kind] w fun e w' => e = .returned (.int .i64 (sumW ns (sel (isK ns kind) ns.length))) ∧ Below w.heap.size w w' := by
  obtain ⟨a0, c0, a1, l1, c1, a2, l2, c2, a3, l3, c3, a4, l4, c4⟩ := m
  simp only at hN
  have HW := hide hW
  have HBx := hide (Box.new w ⟨a0, c0, a1, l1, c1, a2, l2, c2, a3, l3, c3, a4, l4, c4⟩ ns.length)
  have hb0 : Below w.heap.size w (w.alloc (.cells (Mv.cells ⟨a0, c0, a1, l1, c1, a2, l2, c2, a3, l3, c3, a4, l4, c4⟩ ns.length) 26)) := bal (Below.refl _ _) _
  have HB0 := hide hb0
  clear hW hb0
  go_enter Tryz.func18, Tryz.ntmps18
  go_wp2
  go_loopw [5, 6] (fun s i wr => ∃ k : Nat, k ≤ ns.length ∧ i = .int .i64 k ∧ s = .int .i64 (sumW ns (sel (isK ns kind) k)) ∧ Below w.heap.size w wr ∧ wr.cell? ⟨w.heap.size, 0, none⟩ = some (.slice a0 ns.length c0)) (fun _ i _ => ns.length - (intOf i).toNat)
  case atStart => exact ⟨0, Nat.zero_le _, rfl, rfl, HB0.out, HBx.out.1⟩
  case round =>
    obtain ⟨k, hk, rfl, rfl, hbw, q0⟩ := hrel
    by_cases hlt : k < ns.length
    · obtain ⟨b, off, rfl, hc⟩ := (hN.later hbw) (by omega)
      have hkw := kd_wd hc (k : Int) (by omega) (by omega)
      simp only [Int.toNat_natCast] at hkw
      obtain ⟨d0, d1⟩ := hkw
      have HI : Hid (isK ns kind k = (kdOf ns k == kind)) := by
        unfold isK kdOf
        rw [Int.toNat_natCast, List.getElem?_eq_getElem hlt]
        rfl
      have HS := hide (sum_sel ns kind k)
      have hsb := sum_sel_bd HW.out kind k
      have hwb := wdOf_bd HW.out (k : Int)
      clear hc
      generalize kdOf ns k = kd at *
      generalize wdOf ns k = wd at *
      cases hf : (kd == kind)
      · have HS2 : Hid (sumW ns (sel (isK ns kind) (k + 1)) = sumW ns (sel (isK ns kind) k)) := by rw [HS.out, HI.out, hf]; simp [Hid]
        clear HS HI
        go_wp2
        go_roundw
        case rel => exact ⟨k + 1, by omega, by go_num, by rw [HS2.out], hbw, q0⟩
        case measure => simp [intOf]; omega
      · have HS2 : Hid (sumW ns (sel (isK ns kind) (k + 1)) = sumW ns (sel (isK ns kind) k) + wd) := by rw [HS.out, HI.out, hf]; simp [Hid]
        clear HS HI
        go_wp2
        go_roundw
        case rel => exact ⟨k + 1, by omega, by go_num, by rw [HS2.out], hbw, q0⟩
        case measure => simp [intOf]; omega
    · obtain rfl : k = ns.length := by omega
      go_wp2
      go_ret
      exact ⟨rfl, hbw⟩

set_option maxRecDepth 100000 in
set_option maxHeartbeats 1000000 in
theorem sameInts_any (p q : Option Addr) (cp cq : Nat) (l r : List Int) (hl : l.length ≤ maxLen) (hr : r.length ≤ maxLen) (w : World) (hP : IntsAt w p l) (hQ : IntsAt w q r) :
    Calls Tryz.prog 31 #[.slice p l.length cp, .slice q r.length cq] w fun e w' => e = .returned (.bool (decide (l = r))) ∧ Below w.heap.size w w' := by
  unfold maxLen at hl hr
  by_cases hlen : l.length = r.length
  · have hne : ((l.length : Int) != (r.length : Int)) = false := by simp [hlen]
    have HL := hide hlen
    clear hlen
    go_enter Tryz.func31, Tryz.ntmps31
    go_wp2
    go_loopw [5] (fun i wr => ∃ k : Nat, k ≤ l.length ∧ i = .int .i64 k ∧ Below w.heap.size w wr ∧ Hid (∀ i (h1 : i < l.length) (h2 : i < r.length), i < k → l[i] = r[i])) (fun i _ => l.length - (intOf i).toNat)
    case atStart => exact ⟨0, Nat.zero_le _, rfl, Below.refl _ _, fun i h1 h2 h => by omega⟩
    case round =>
      obtain ⟨k, hk, rfl, hbw, hz⟩ := hrel
      by_cases hlt : k < l.length
      · have hlt2 : k < r.length := by have := HL.out; omega
        obtain ⟨b, off, rfl, hc⟩ := (hP.later hbw) (by omega)
        obtain ⟨b2, off2, rfl, hc2⟩ := (hQ.later hbw) (by omega)
        have d0 := hc k hlt
        have d1 := hc2 k hlt2
        have hi1 : (k : Int) < (l.length : Int) := by omega
        have hi2 : (k : Int) < (r.length : Int) := by omega
        have HN : Hid (l[k] = r[k] → ∀ i (h1 : i < l.length) (h2 : i < r.length), i < k + 1 → l[i] = r[i]) := by
          intro h i h1 h2 hik
          rcases Nat.lt_succ_iff_lt_or_eq.1 hik with h3 | rfl
          · exact hz.out i h1 h2 h3
          · exact h
        have HD : Hid (l[k] ≠ r[k] → decide (l = r) = false) := by
          intro h
          refine decide_eq_false (fun e => h ?_)
          subst e
          rfl
        clear hc hc2 hz
        generalize l[k] = x at *
        generalize r[k] = y at *
        by_cases hxy : x = y
        · have e1 : (x != y) = false := by simp [hxy]
          have HN2 := hide (HN.out hxy)
          clear hxy HN HD
          go_wp2
          go_quiet (fail)
          go_wp2
          go_roundw
          case rel => exact ⟨k + 1, by omega, by go_num, below_drewN hbw _, HN2⟩
          case measure => simp [intOf]; omega
        · have e1 : (x != y) = true := by simp [hxy]
          have HD2 := hide (HD.out hxy)
          clear hxy HN HD
          go_wp2
          go_quiet (fail)
          go_wp2
          go_ret
          exact ⟨ret_bool HD2.out.symm, below_drewN hbw _⟩
      · have HD : Hid (decide (l = r) = true) := by
          refine decide_eq_true (List.ext_getElem HL.out (fun i h1 h2 => hz.out i h1 h2 (by omega)))
        clear hz
        go_wp2
        go_ret
        exact ⟨ret_bool HD.out.symm, hbw⟩
  · have hne : ((l.length : Int) != (r.length : Int)) = true := by simp; omega
    have HD : Hid (decide (l = r) = false) := decide_eq_false (fun e => hlen (by rw [e]))
    clear hlen
    go_enter Tryz.func31, Tryz.ntmps31
    go_wp2
    go_ret
    exact ⟨ret_bool HD.out.symm, Below.refl _ _⟩

end Go.Proofs.YtabnimgpednhjaaGreatDoor.Ev

namespace Go.Proofs.YtabnimgpednhjaaGreatDoor.Ev
open Go.RowKit
set_option maxRecDepth 100000

theorem checkNodeR_any (p : Option Addr) (cap : Nat) (ns : List Nd) (hl : ns.length ≤ 80) (i : Nat) (hi : i < ns.length) (w : World) (hN : NodesAt w p ns) :
    Calls Tryz.prog 17 #[.slice p ns.length cap, .int .i64 i] w fun e w' => e = .returned (.int .i64 (nodeE ns i ns[i])) ∧ Below w.heap.size w w' := by
  by_cases hk : btw ns[i].kind 1 23 = true
  · by_cases hv : btw ns[i].width 1 8 = true
    · have hk2 := btw_true.1 hk
      by_cases h4 : 4 ≤ ns[i].kind
      · rcases takes_op h4 hk2.2 with ht | ht | ht
        · exact checkNodeR_op1 p cap ns hl i hi w hN h4 hk2.2 hv ht
        · exact checkNodeR_op2 p cap ns hl i hi w hN h4 hk2.2 hv ht
        · exact checkNodeR_op3 p cap ns hl i hi w hN h4 hk2.2 hv ht
      · have h3 : ns[i].kind = 1 ∨ ns[i].kind = 2 ∨ ns[i].kind = 3 := by omega
        rcases h3 with h | h | h
        · exact checkNodeR_1 p cap ns hl i hi w hN h hv
        · exact checkNodeR_2 p cap ns hl i hi w hN h hv
        · exact checkNodeR_3 p cap ns hl i hi w hN h hv
    · exact checkNodeR_bad p cap ns hl i hi w hN (.inr (by simpa using hv))
  · exact checkNodeR_bad p cap ns hl i hi w hN (.inl (by simpa using hk))

end Go.Proofs.YtabnimgpednhjaaGreatDoor.Ev

namespace Go.Proofs.YtabnimgpednhjaaGreatDoor.Ev
open Go.RowKit
set_option maxRecDepth 100000

theorem sub_len {l r : List Int} (hl : l.Nodup) (hs : ∀ x ∈ l, x ∈ r) : l.length ≤ r.length := by
  induction l generalizing r with
  | nil => simp
  | cons a t ih =>
    have ha : a ∈ r := hs a (by simp)
    have hn := List.nodup_cons.1 hl
    have h1 : t.length ≤ (r.erase a).length := ih hn.2 (fun x hx => (List.mem_erase_of_ne (fun (h : x = a) => hn.1 (h ▸ hx))).2 (hs x (by simp [hx])))
    rw [List.length_erase_of_mem ha] at h1
    have : 0 < r.length := List.length_pos_of_mem ha
    simp only [List.length_cons]
    omega

theorem dup_nodup {l : List Int} (h : dup l = false) : l.Nodup := by
  induction l with
  | nil => simp
  | cons a t ih =>
    simp only [dup, Bool.or_eq_false_iff] at h
    refine List.nodup_cons.2 ⟨?_, ih h.2⟩
    intro hm
    have : t.contains a = true := by simpa using hm
    rw [h.1] at this
    cases this

theorem mem_sel {f : Nat → Bool} {k : Nat} {x : Int} : x ∈ sel f k ↔ ∃ i, i < k ∧ f i = true ∧ x = i := by
  unfold sel
  simp only [List.mem_map, List.mem_filter, List.mem_range]
  constructor
  · rintro ⟨i, ⟨h1, h2⟩, rfl⟩; exact ⟨i, h1, h2, rfl⟩
  · rintro ⟨i, h1, h2, rfl⟩; exact ⟨i, ⟨h1, h2⟩, rfl⟩

theorem sel_rises (f : Nat → Bool) (k : Nat) : (sel f k).Pairwise (· < ·) := by
  induction k with
  | zero => simp [sel]
  | succ k ih =>
    cases h : f k
    · rw [sel_no h]; exact ih
    · rw [sel_yes h, List.pairwise_append]
      refine ⟨ih, by simp, ?_⟩
      intro a ha b hb
      obtain ⟨i, hi, _, rfl⟩ := mem_sel.1 ha
      simp at hb
      omega

theorem sel_nodup (f : Nat → Bool) (k : Nat) : (sel f k).Nodup :=
  (sel_rises f k).imp (fun h => by omega)

theorem isK_kdOf {ns : List Nd} {kind x : Int} (h0 : 0 ≤ x) (h1 : x < ns.length) : isK ns kind x.toNat = (kdOf ns x == kind) := by
  unfold isK kdOf
  rw [List.getElem?_eq_getElem (by omega)]

theorem pigeon {ns : List Nd} {xs : List (Int × Int)} (hx : ∀ p ∈ xs, pairE ns p.1 p.2 = 0) (hd : dup (fsts xs) = false) :
    (xs.length = (sel (isK ns 3) ns.length).length) ↔ ((sel (isK ns 3) ns.length).any (fun s => !hasSt s xs) = false) := by
  have hnd := dup_nodup hd
  have hlen : (fsts xs).length = xs.length := by simp [fsts]
  have hsub : ∀ x ∈ fsts xs, x ∈ sel (isK ns 3) ns.length := by
    intro x h
    unfold fsts at h
    obtain ⟨p, hp, rfl⟩ := List.mem_map.1 h
    obtain ⟨⟨h0, h1⟩, _, hk, _⟩ := pairE_zero (hx p hp)
    refine mem_sel.2 ⟨p.1.toNat, by omega, ?_, by omega⟩
    rw [isK_kdOf h0 h1, hk]; rfl
  have hst : ∀ s, hasSt s xs = true ↔ s ∈ fsts xs := by
    intro s
    unfold hasSt fsts
    simp only [List.any_eq_true, beq_iff_eq, List.mem_map]
  constructor
  · intro he
    refine List.any_eq_false.2 (fun s hs => ?_)
    have : hasSt s xs = true := by
      rw [hst]
      refine Classical.byContradiction fun hno => ?_
      have := sub_len (l := s :: fsts xs) (r := sel (isK ns 3) ns.length) (List.nodup_cons.2 ⟨hno, hnd⟩) (by
        intro x h
        rcases List.mem_cons.1 h with rfl | h
        · exact hs
        · exact hsub x h)
      simp only [List.length_cons] at this
      omega
    rw [this]; simp
  · intro he
    have h1 := sub_len hnd hsub
    have h2 := sub_len (sel_nodup (isK ns 3) ns.length) (r := fsts xs) (by
      intro s hs
      have := List.any_eq_false.1 he s hs
      rw [← hst]
      simpa using this)
    omega

/-- What the nodes' own words are made of. -/
def opsAt (ns : List Nd) (i : Nat) : List Int := match ns[i]? with | some x => opsL x | none => []
theorem opsAt_at {ns : List Nd} {i : Nat} (h : i < ns.length) : opsAt ns i = opsL ns[i] := by
  unfold opsAt; rw [List.getElem?_eq_getElem h]
/-- The nodes of the pairs of a state. -/
def ofSt (s : Int) (l : List (Int × Int)) : List Int := (l.filter (fun p => p.1 == s)).map (·.2)
/-- The nodes on which one leans at once. -/
def leanL (ns : List Nd) (is xs : List (Int × Int)) (i : Nat) : List Int := if isK ns 3 i then ofSt i is ++ ofSt i xs else opsAt ns i

def Closed (ns : List Nd) (is xs : List (Int × Int)) (S : Nat → Bool) : Prop := ∀ i, i < ns.length → S i = true → ∀ y ∈ leanL ns is xs i, S y.toNat = true
def Roots (rs : List Int) (S : Nat → Bool) : Prop := ∀ r ∈ rs, S r.toNat = true

/-- The least closed set that has the roots. -/
structure IsCone (ns : List Nd) (is xs : List (Int × Int)) (rs : List Int) (S : Nat → Bool) : Prop where
  root : Roots rs S
  clo : Closed ns is xs S
  least : ∀ T, Roots rs T → Closed ns is xs T → ∀ i, i < ns.length → S i = true → T i = true

theorem sel_congr {S T : Nat → Bool} {n : Nat} (h : ∀ i, i < n → S i = T i) : sel S n = sel T n := by
  induction n with
  | zero => rfl
  | succ n ih =>
    have h1 := ih (fun i hi => h i (by omega))
    have h2 := h n (by omega)
    cases hT : T n
    · rw [sel_no hT, sel_no (h2.trans hT), h1]
    · rw [sel_yes hT, sel_yes (h2.trans hT), h1]

theorem bool_iff {a b : Bool} (h : a = true ↔ b = true) : a = b := by cases a <;> cases b <;> simp_all

theorem cone_one {ns : List Nd} {is xs : List (Int × Int)} {rs : List Int} {S T : Nat → Bool} (h : IsCone ns is xs rs S) (k : IsCone ns is xs rs T) : sel S ns.length = sel T ns.length :=
  sel_congr fun i hi => bool_iff ⟨h.least T k.root k.clo i hi, k.least S h.root h.clo i hi⟩

theorem cone_again {ns : List Nd} {is xs : List (Int × Int)} {rs : List Int} {S T : Nat → Bool} (h : IsCone ns is xs rs S) (k : IsCone ns is xs (sel S ns.length) T) : sel T ns.length = sel S ns.length :=
  sel_congr fun i hi => bool_iff ⟨k.least S (fun r hr => by obtain ⟨j, _, hS, rfl⟩ := mem_sel.1 hr; simpa using hS) h.clo i hi,
    fun hS => by have := k.root (i : Int) (mem_sel.2 ⟨i, hi, hS, rfl⟩); simpa using this⟩

/-- All nodes on which one leans are there. -/
def Lok (ns : List Nd) (is xs : List (Int × Int)) : Prop := ∀ i, i < ns.length → ∀ y ∈ leanL ns is xs i, 0 ≤ y ∧ y < ns.length

theorem lok_of {ns : List Nd} {is xs : List (Int × Int)} (hO : Ook ns) (hi : ∀ p ∈ is, pairE ns p.1 p.2 = 0) (hx : ∀ p ∈ xs, pairE ns p.1 p.2 = 0) : Lok ns is xs := by
  intro i hlt y hy
  unfold leanL at hy
  cases hk : isK ns 3 i
  · rw [if_neg (by simp [hk]), opsAt_at hlt] at hy
    have := hO i hlt y hy
    omega
  · rw [if_pos hk] at hy
    have key : ∀ l : List (Int × Int), (∀ p ∈ l, pairE ns p.1 p.2 = 0) → y ∈ ofSt i l → 0 ≤ y ∧ y < ns.length := by
      intro l hl hm
      unfold ofSt at hm
      obtain ⟨p, hp, rfl⟩ := List.mem_map.1 hm
      exact (pairE_zero (hl p (List.mem_filter.1 hp).1)).2.1
    rcases List.mem_append.1 hy with h | h
    · exact key is hi h
    · exact key xs hx h

/-- What holds as the work goes on: met so far, and still to do. -/
structure Work (ns : List Nd) (is xs : List (Int × Int)) (rs : List Int) (b : List Bool) (l : List Int) : Prop where
  len : b.length = ns.length
  rng : ∀ y ∈ l, 0 ≤ y ∧ y < ns.length
  root : ∀ r ∈ rs, b.getD r.toNat false = true ∨ r ∈ l
  clo : ∀ i, i < ns.length → b.getD i false = true → ∀ y ∈ leanL ns is xs i, b.getD y.toNat false = true ∨ y ∈ l
  least : ∀ T, Roots rs T → Closed ns is xs T → (∀ i, i < ns.length → b.getD i false = true → T i = true) ∧ (∀ y ∈ l, T y.toNat = true)

theorem getD_rep (n i : Nat) : (List.replicate n false).getD i false = false := by
  simp only [List.getD, List.getElem?_replicate]
  split <;> rfl

theorem Work.start {ns : List Nd} {is xs : List (Int × Int)} {rs : List Int} (h : ∀ r ∈ rs, 0 ≤ r ∧ r < ns.length) : Work ns is xs rs (List.replicate ns.length false) rs :=
  ⟨by simp, h, fun r hr => .inr hr, fun i _ hi => (by rw [getD_rep] at hi; cases hi), fun T hT _ => ⟨fun i _ hi => (by rw [getD_rep] at hi; cases hi), hT⟩⟩

theorem Work.met {ns : List Nd} {is xs : List (Int × Int)} {rs : List Int} {b : List Bool} {l : List Int} {x : Int} (h : Work ns is xs rs b (l ++ [x])) (hb : b.getD x.toNat false = true) : Work ns is xs rs b l := by
  refine ⟨h.len, fun y hy => h.rng y (List.mem_append.2 (.inl hy)), ?_, ?_, ?_⟩
  · intro r hr
    rcases h.root r hr with h1 | h1
    · exact .inl h1
    · rcases List.mem_append.1 h1 with h2 | h2
      · exact .inr h2
      · rw [List.mem_singleton.1 h2]; exact .inl hb
  · intro i hi hbi y hy
    rcases h.clo i hi hbi y hy with h1 | h1
    · exact .inl h1
    · rcases List.mem_append.1 h1 with h2 | h2
      · exact .inr h2
      · rw [List.mem_singleton.1 h2]; exact .inl hb
  · intro T h1 h2
    obtain ⟨h3, h4⟩ := h.least T h1 h2
    exact ⟨h3, fun y hy => h4 y (List.mem_append.2 (.inl hy))⟩

theorem getD_set (b : List Bool) (k j : Nat) (hk : k < b.length) : (b.set k true).getD j false = if j = k then true else b.getD j false := by
  simp only [List.getD, List.getElem?_set]
  by_cases h : j = k
  · subst h; simp [hk]
  · have h' : ¬ k = j := fun e => h e.symm
    simp [h, h']

theorem Work.more {ns : List Nd} {is xs : List (Int × Int)} {rs : List Int} {b : List Bool} {l : List Int} {x : Int} (hL : Lok ns is xs) (h : Work ns is xs rs b (l ++ [x])) : Work ns is xs rs (b.set x.toNat true) (l ++ leanL ns is xs x.toNat) := by
  have hx := h.rng x (by simp)
  have hlt : x.toNat < b.length := by have := h.len; omega
  have up : ∀ j, b.getD j false = true → (b.set x.toNat true).getD j false = true := by
    intro j hj; rw [getD_set _ _ _ hlt]; split
    · rfl
    · exact hj
  have here : (b.set x.toNat true).getD x.toNat false = true := by rw [getD_set _ _ _ hlt, if_pos rfl]
  refine ⟨by simpa using h.len, ?_, ?_, ?_, ?_⟩
  · intro y hy
    rcases List.mem_append.1 hy with h1 | h1
    · exact h.rng y (List.mem_append.2 (.inl h1))
    · exact hL _ (by omega) y h1
  · intro r hr
    rcases h.root r hr with h1 | h1
    · exact .inl (up _ h1)
    · rcases List.mem_append.1 h1 with h2 | h2
      · exact .inr (List.mem_append.2 (.inl h2))
      · rw [List.mem_singleton.1 h2]; exact .inl here
  · intro i hi hbi y hy
    by_cases he : i = x.toNat
    · subst he; exact .inr (List.mem_append.2 (.inr hy))
    · rw [getD_set _ _ _ hlt, if_neg he] at hbi
      rcases h.clo i hi hbi y hy with h1 | h1
      · exact .inl (up _ h1)
      · rcases List.mem_append.1 h1 with h2 | h2
        · exact .inr (List.mem_append.2 (.inl h2))
        · rw [List.mem_singleton.1 h2]; exact .inl here
  · intro T h1 h2
    obtain ⟨h3, h4⟩ := h.least T h1 h2
    have hTx := h4 x (by simp)
    refine ⟨fun i hi hbi => ?_, fun y hy => ?_⟩
    · by_cases he : i = x.toNat
      · subst he; exact hTx
      · rw [getD_set _ _ _ hlt, if_neg he] at hbi
        exact h3 i hi hbi
    · rcases List.mem_append.1 hy with h5 | h5
      · exact h4 y (List.mem_append.2 (.inl h5))
      · exact h2 _ (by omega) hTx y h5

theorem Work.done {ns : List Nd} {is xs : List (Int × Int)} {rs : List Int} {b : List Bool} (h : Work ns is xs rs b []) : IsCone ns is xs rs (fun i => b.getD i false) :=
  ⟨fun r hr => (h.root r hr).resolve_right (by simp), fun i hi hb y hy => (h.clo i hi hb y hy).resolve_right (by simp), fun T h1 h2 => (h.least T h1 h2).1⟩


end Go.Proofs.YtabnimgpednhjaaGreatDoor.Ev
