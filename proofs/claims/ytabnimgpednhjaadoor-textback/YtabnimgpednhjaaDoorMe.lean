/- Models: lists of numbers; nodes of a kind, and their bits. -/
import Derived.Test.YtabnimgpednhjaaDoorMdM
namespace Go.Proofs.YtabnimgpednhjaaDoor.Ev
open Go.RowKit
set_option maxRecDepth 100000

/-- What lies at a list of numbers. -/
def IntsAt (w : World) (p : Option Addr) (l : List Int) : Prop :=
  0 < l.length → ∃ b off, p = some ⟨b, off, none⟩ ∧ ∀ (i : Nat) (h : i < l.length), w.cell? ⟨b, off + i, none⟩ = some (.int .i64 l[i])

theorem IntsAt.later {w w1 : World} {p : Option Addr} {l : List Int} (h : IntsAt w p l) (hb : Below w.heap.size w w1) : IntsAt w1 p l := by
  intro h0
  obtain ⟨b, off, hp, hc⟩ := h h0
  exact ⟨b, off, hp, fun i hi => cell_later hb (hc i hi)⟩

theorem owns_ints {w : World} {base : Nat} {v : Value} {l : List Int} (h : w.ownsRow base 3 1 v l.length (l.map (Value.int .i64))) : ∃ p cap, v = .slice p l.length cap ∧ IntsAt w p l := by
  obtain ⟨h1, h2⟩ := h
  rcases h2 with ⟨rfl, h0⟩ | ⟨g, cap, cur, rfl, hg, hh, hn, hm, hs, ht⟩
  · refine ⟨none, 0, by rw [h0], fun h => by omega⟩
  · refine ⟨_, cap, rfl, fun _ => ⟨g, 0, rfl, fun i hi => ?_⟩⟩
    have h3 : w.ownsRow base 3 1 (.slice (some ⟨g, 0, none⟩) l.length cap) l.length (l.map (Value.int .i64)) := ⟨h1, .inr ⟨g, cap, cur, rfl, hg, hh, hn, hm, hs, ht⟩⟩
    have := h3.cellAt i (by omega)
    rw [Nat.zero_add, this, List.getElem?_map, List.getElem?_eq_getElem hi]
    rfl

set_option maxRecDepth 100000 in
set_option maxHeartbeats 1000000 in
theorem ofKind_any (p0 : Option Addr) (cap0 : Nat) (ns : List Nd) (hl : ns.length ≤ 2932031007402) (kind : Int) (w : World) (hN : NodesAt w p0 ns) :
    Calls Tryd.prog 38 #[.slice p0 ns.length cap0, .int .i64 kind] w fun e w' =>
      ∃ p cap, e = .returned (.slice p (sel (isK ns kind) ns.length).length cap) ∧ IntsAt w' p (sel (isK ns kind) ns.length) ∧ Below w.heap.size w w' := by
  obtain ⟨i0, hi, hz0, hz1, hz2⟩ := info_parts info3
  go_enter Tryd.func38, Tryd.ntmps38
  go_wp2
  go_loopw [5, 10] (fun v i wr => ∃ k : Nat, k ≤ ns.length ∧ i = .int .i64 k ∧ wr.ownsRow w.heap.size 3 1 v (sel (isK ns kind) k).length ((sel (isK ns kind) k).map (Value.int .i64)) ∧ Below w.heap.size w wr) (fun _ i _ => ns.length - (intOf i).toNat)
  case atStart => exact ⟨0, Nat.zero_le _, rfl, World.ownsRow_nil _ _ _ _, Below.refl _ _⟩
  case round =>
    obtain ⟨k, hk, rfl, hown, hbw⟩ := hrel
    have hsz := hbw.size
    by_cases hlt : k < ns.length
    · obtain ⟨b, off, rfl, hc⟩ := (hN.later hbw) (by omega)
      obtain ⟨d0, d1, d2, d3, d4, d5⟩ := hc k hlt
      have HI := hide (isK_at (kind := kind) hlt)
      clear hc
      generalize ns[k] = nd at *
      obtain ⟨kd, v, x, y, z, n⟩ := nd
      simp only at *
      cases hf : (kd == kind)
      · have HS : Hid (sel (isK ns kind) (k + 1) = sel (isK ns kind) k) := sel_no (by rw [HI.out, hf])
        clear HI
        go_wp2
        go_roundw
        case rel => exact ⟨k + 1, by omega, by go_num, by rw [HS.out]; exact hown.alloc _, bal hbw _⟩
        case measure => simp [intOf]; omega
      · have HS : Hid (sel (isK ns kind) (k + 1) = sel (isK ns kind) k ++ [(k : Int)]) := sel_yes (by rw [HI.out, hf])
        have hsl := sel_len (isK ns kind) k
        clear HI
        generalize sel (isK ns kind) k = l at *
        go_wp2_with (at_builtin; refine wpList_append_own _ rfl _ _ 24 rfl w.heap.size 3 i0 (.int .i64 0) 1 8 Tryd.underlying24 hi hz0 hz1 hz2 rfl (by decide) _ _ _ rfl ((hown.alloc _).alloc _) ⟨wr.heap.size + 1, 0, none⟩ 1 1 [.int .i64 (k : Int)] rfl rfl ?c1 ?c2 ?c3 ?c4 ?c5 ?_)
        case c1 =>
          intro j u hj
          match j, hj with
          | 0, hj => simp at hj; subst hj; simp [Addr.add]
        case c2 => intro u hu; simp at hu; subst hu; rfl
        case c3 => unfold maxLen; omega
        case c4 => omega
        case c5 => simp; omega
        intro v' w1 hown' hgrow _
        have R := owns_later2 hown hown' hgrow hbw (by omega)
        rw [← HS.out] at R
        clear hown' hgrow hown
        go_wp2
        go_roundw
        case rel => exact ⟨k + 1, by omega, by go_num, R.1, R.2⟩
        case measure => simp [intOf]; omega
    · obtain rfl : k = ns.length := by omega
      obtain ⟨p, cap, rfl, hI⟩ := owns_ints hown
      go_wp2
      go_ret
      exact ⟨p, cap, rfl, hI, hbw⟩

/-- Is it a node's number? -/
def isN (len : Nat) (x : Int) : Bool := decide (0 ≤ x) && decide (x < len)
theorem isN_true {len : Nat} {x : Int} : isN len x = true ↔ 0 ≤ x ∧ x < len := by simp [isN]
theorem isN_false {len : Nat} {x : Int} : isN len x = false ↔ ¬ (0 ≤ x ∧ x < len) := by rw [← isN_true]; simp

set_option maxHeartbeats 1000000 in
theorem isNode_any (m : Mv) (len : Nat) (_hl : len ≤ maxLen) (x : Int) (w : World) :
    Calls Tryd.prog 45 #[m.val len, .int .i64 x] w fun e w' => e = .returned (.bool (isN len x)) ∧ w' = w.alloc (.cells (m.cells len) 26) := by
  unfold maxLen at _hl
  go_enter Tryd.func45, Tryd.ntmps45
  go_wp2
  all_goals
    go_ret
    exact ⟨ret_bool (by rw [Bool.eq_iff_iff, isN_true]; simp; try omega), rfl⟩

/-- All widths of a list, added. -/
def sumW (ns : List Nd) (l : List Int) : Int := (l.map (wdOf ns)).sum
theorem sumW_take (ns : List Nd) (l : List Int) (k : Nat) (h : k < l.length) : sumW ns (l.take (k + 1)) = sumW ns (l.take k) + wdOf ns l[k] := by
  unfold sumW
  rw [List.take_succ_eq_append_getElem h]
  simp only [List.map_append, List.sum_append, List.map_cons, List.map_nil, List.sum_cons, List.sum_nil]
  omega

def Wok (ns : List Nd) : Prop := ∀ (i : Nat) (h : i < ns.length), 1 ≤ ns[i].width ∧ ns[i].width ≤ 8

theorem wdOf_bd {ns : List Nd} (h : Wok ns) (x : Int) : 0 ≤ wdOf ns x ∧ wdOf ns x ≤ 8 := by
  unfold wdOf
  by_cases hx : x.toNat < ns.length
  · rw [List.getElem?_eq_getElem hx]
    have := h _ hx
    simp only
    omega
  · rw [List.getElem?_eq_none (by omega)]
    simp

theorem sumW_bd {ns : List Nd} (h : Wok ns) (l : List Int) (k : Nat) : 0 ≤ sumW ns (l.take k) ∧ sumW ns (l.take k) ≤ 8 * k := by
  induction k with
  | zero => simp [sumW]
  | succ k ih =>
    by_cases hk : k < l.length
    · rw [sumW_take ns l k hk]
      have := wdOf_bd h l[k]
      omega
    · rw [List.take_of_length_le (by omega)] at ih ⊢
      omega

theorem sel_bd {f : Nat → Bool} {n : Nat} {k : Nat} (h : k < (sel f n).length) : 0 ≤ (sel f n)[k] ∧ (sel f n)[k] < n := by
  have key : ∀ y, y ∈ sel f n → 0 ≤ y ∧ y < n := by
    intro y hy
    unfold sel at hy
    simp only [List.mem_map, List.mem_filter, List.mem_range] at hy
    obtain ⟨a, ⟨h1, _⟩, h2⟩ := hy
    omega
  exact key _ (List.getElem_mem h)

set_option maxRecDepth 100000 in
set_option maxHeartbeats 2000000 in
theorem bitsOf_any (a0 : Option Addr) (c0 : Nat) (ns : List Nd) (hl : ns.length ≤ 80) (hW : Wok ns) (kind : Int) (w : World) (hN : NodesAt w a0 ns) :
    Calls Tryd.prog 19 #[.slice a0 ns.length c0, .int .i64 kind] w fun e w' => e = .returned (.int .i64 (sumW ns (sel (isK ns kind) ns.length))) ∧ Below w.heap.size w w' := by
  have hsl := sel_len (isK ns kind) ns.length
  have HB : Hid (∀ k, ∀ h : k < (sel (isK ns kind) ns.length).length, 0 ≤ (sel (isK ns kind) ns.length)[k] ∧ (sel (isK ns kind) ns.length)[k] < ns.length) := fun k h => sel_bd h
  have HW : Hid _ := hW
  clear hW
  go_enter Tryd.func19, Tryd.ntmps19
  go_wp2_with fail
  refine (ofKind_any a0 c0 ns (by omega) kind _ hN).mono ?_
  rintro e w1 ⟨p, cap, rfl, hI, hbw⟩
  have hN1 := hN.later hbw
  clear hN
  generalize hL : sel (isK ns kind) ns.length = l at *
  have HL : Hid _ := hL
  clear hL
  go_wp2
  go_loopw [5, 12] (fun s i wr => ∃ k : Nat, k ≤ l.length ∧ i = .int .i64 k ∧ s = .int .i64 (sumW ns (l.take k)) ∧ wr = w1) (fun _ i _ => l.length - (intOf i).toNat)
  case atStart => exact ⟨0, Nat.zero_le _, rfl, by simp [sumW], rfl⟩
  case round =>
    obtain ⟨k, hk, rfl, rfl, rfl⟩ := hrel
    by_cases hlt : k < l.length
    · obtain ⟨b, off, rfl, hc⟩ := hI (by omega)
      have hx := HB.out k hlt
      have hck := hc k hlt
      have HS : Hid _ := sumW_take ns l k hlt
      have hsb := sumW_bd HW.out l k
      have hwb := wdOf_bd HW.out l[k]
      generalize l[k] = x at *
      obtain ⟨nb, noff, hp, hnc⟩ := hN1 (by omega)
      have hw1 := wd_cell hnc x hx.1 hx.2
      clear hnc hc
      subst hp
      go_wp2
      go_roundw
      case rel => exact ⟨k + 1, by omega, by go_num, by rw [HS.out], by first | rfl | trivial⟩
      case measure => simp [intOf]; omega
    · obtain rfl : k = l.length := by omega
      go_wp2
      go_ret
      exact ⟨ret_int (by rw [List.take_length, HL.out]), hbw⟩

end Go.Proofs.YtabnimgpednhjaaDoor.Ev
