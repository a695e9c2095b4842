/- Models: a node is checked. -/
import Derived.Test.YtfobcnhibhbbaaaGreatDoorMb
import Derived.Test.YtfobcnhibhbbaaaGreatDoorAbM
namespace Go.Proofs.YtfobcnhibhbbaaaGreatDoor.Ev
open Go.RowKit
set_option maxRecDepth 100000

def nodeE (ns : List Nd) (i : Nat) (x : Nd) : Int :=
  if btw x.kind 1 23 = false then 7 else if btw x.width 1 8 = false then 3 else if 4 ≤ x.kind then opE ns i x else leafE x

theorem takes_op {k : Int} (h : 4 ≤ k) (h2 : k ≤ 23) : takes k = 1 ∨ takes k = 2 ∨ takes k = 3 := by
  unfold takes
  (repeat' split) <;> omega

theorem checkOp_any (p : Option Addr) (cap : Nat) (ns : List Nd) (hl : ns.length ≤ 80) (i : Nat) (hi : i < ns.length) (w : World) (hN : NodesAt w p ns) (h : 4 ≤ ns[i].kind) (h2 : ns[i].kind ≤ 23) :
    Calls Tryz.prog 50 #[.slice p ns.length cap, .int .i64 i] w fun e w' => e = .returned (.int .i64 (opE ns i ns[i])) ∧ Below w.heap.size w w' := by
  rcases takes_op h h2 with ht | ht | ht
  · exact checkOp_1 p cap ns hl i hi w hN ht
  · exact checkOp_2 p cap ns hl i hi w hN ht
  · exact checkOp_3 p cap ns hl i hi w hN ht

theorem NodesAt.later {w w1 : World} {p : Option Addr} {ns : List Nd} (h : NodesAt w p ns) (hb : Below w.heap.size w w1) : NodesAt w1 p ns := by
  intro h0
  obtain ⟨b, off, hp, hc⟩ := h h0
  refine ⟨b, off, hp, fun i hi => ?_⟩
  obtain ⟨c0, c1, c2, c3, c4, c5⟩ := hc i hi
  exact ⟨cell_later hb c0, cell_later hb c1, cell_later hb c2, cell_later hb c3, cell_later hb c4, cell_later hb c5⟩

set_option maxRecDepth 100000 in
set_option maxHeartbeats 1000000 in
theorem checkNode_any (p : Option Addr) (cap : Nat) (ns : List Nd) (hl : ns.length ≤ 80) (i : Nat) (hi : i < ns.length) (w : World) (hN : NodesAt w p ns) :
    Calls Tryz.prog 26 #[.slice p ns.length cap, .int .i64 i] w fun e w' => e = .returned (.int .i64 (nodeE ns i ns[i])) ∧ Below w.heap.size w w' := by
  have hN2 := hN
  obtain ⟨b, off, rfl, hc⟩ := hN (by omega)
  obtain ⟨c0, c1, c2, c3, c4, c5⟩ := hc i hi
  have hi2 : (i : Int) < (ns.length : Int) := by omega
  have HO : Hid (∀ w1, Below w.heap.size w w1 → 4 ≤ ns[i].kind → ns[i].kind ≤ 23 → Calls Tryz.prog 50 #[.slice (some ⟨b, off, none⟩) ns.length cap, .int .i64 i] w1 fun e w' => e = .returned (.int .i64 (opE ns i ns[i])) ∧ Below w1.heap.size w1 w') :=
    fun w1 hb h h2 => checkOp_any _ cap ns hl i hi w1 (hN2.later hb) h h2
  clear hN hN2 hc
  generalize ns[i] = nd at *
  obtain ⟨k, v, x, y, z, n⟩ := nd
  simp only at *
  by_cases hk : btw k 1 23 = true
  · by_cases hv : btw v 1 8 = true
    · have hk2 := btw_true.1 hk
      have hv2 := btw_true.1 hv
      by_cases h4 : 4 ≤ k
      · have ho : btw k 4 23 = true := btw_true.2 (by omega)
        have HE : Hid (nodeE ns i ⟨k, v, x, y, z, n⟩ = opE ns i ⟨k, v, x, y, z, n⟩) := by
          unfold nodeE; rw [if_neg (by simp [hk]), if_neg (by simp [hv]), if_pos h4]; rfl
        generalize nodeE ns i ⟨k, v, x, y, z, n⟩ = R at *
        generalize opE ns i ⟨k, v, x, y, z, n⟩ = R2 at *
        go_enter Tryz.func26, Tryz.ntmps26
        go_wp2_with (first | (go_at_call 47; refine (isKind_any _ _).mono ?_; rintro e w' ⟨rfl, rfl⟩) | (go_at_call 48; refine (isWidth_any _ _).mono ?_; rintro e w' ⟨rfl, rfl⟩) | (go_at_call 49; refine (isOp_any _ _).mono ?_; rintro e w' ⟨rfl, rfl⟩))
        refine (HO.out _ (bal (Below.refl _ _) _) h4 hk2.2).mono ?_
        rintro e w1 ⟨rfl, hb1⟩
        go_wp2
        go_ret
        exact ⟨ret_int HE.out.symm, bthen (bal (Below.refl _ _) _) hb1⟩
      · have ho : btw k 4 23 = false := btw_false.2 (by omega)
        have HE : Hid (nodeE ns i ⟨k, v, x, y, z, n⟩ = leafE ⟨k, v, x, y, z, n⟩) := by
          unfold nodeE; rw [if_neg (by simp [hk]), if_neg (by simp [hv]), if_neg h4]; rfl
        generalize nodeE ns i ⟨k, v, x, y, z, n⟩ = R at *
        go_enter Tryz.func26, Tryz.ntmps26
        go_wp2_with (first | (go_at_call 47; refine (isKind_any _ _).mono ?_; rintro e w' ⟨rfl, rfl⟩) | (go_at_call 48; refine (isWidth_any _ _).mono ?_; rintro e w' ⟨rfl, rfl⟩) | (go_at_call 49; refine (isOp_any _ _).mono ?_; rintro e w' ⟨rfl, rfl⟩))
        refine (leaf_any _ _ _ _ _ _ (by omega) _).mono ?_
        rintro e w1 ⟨rfl, hb1⟩
        go_wp2
        go_ret
        exact ⟨ret_int HE.out.symm, bthen (bal (Below.refl _ _) _) hb1⟩
    · have hv' : btw v 1 8 = false := by simpa using hv
      have HE : Hid (nodeE ns i ⟨k, v, x, y, z, n⟩ = 3) := by
        unfold nodeE; rw [if_neg (by simp [hk]), if_pos hv']; rfl
      clear hv
      go_enter Tryz.func26, Tryz.ntmps26
      go_wp2_with (first | (go_at_call 47; refine (isKind_any _ _).mono ?_; rintro e w' ⟨rfl, rfl⟩) | (go_at_call 48; refine (isWidth_any _ _).mono ?_; rintro e w' ⟨rfl, rfl⟩))
      go_ret
      exact ⟨ret_int HE.out.symm, bal (Below.refl _ _) _⟩
  · have hk' : btw k 1 23 = false := by simpa using hk
    have HE : Hid (nodeE ns i ⟨k, v, x, y, z, n⟩ = 7) := by
      unfold nodeE; rw [if_pos hk']; rfl
    clear hk
    go_enter Tryz.func26, Tryz.ntmps26
    go_wp2_with (go_at_call 47; refine (isKind_any _ _).mono ?_; rintro e w' ⟨rfl, rfl⟩)
    go_ret
    exact ⟨ret_int HE.out.symm, bal (Below.refl _ _) _⟩

end Go.Proofs.YtfobcnhibhbbaaaGreatDoor.Ev

namespace Go.Proofs.YtfobcnhibhbbaaaGreatDoor.Ev
open Go.RowKit
set_option maxRecDepth 100000

theorem info3 : (Tryz.prog.info? 3).map (fun i => (i.zero, i.size, i.bytes)) = some (some (.int .i64 0), 1, 8) := by kernel_rfl

theorem hide {p : Prop} (h : p) : Hid p := h

/-- A model as a value: five lists. -/
structure Mv where
  a0 : Option Addr
  c0 : Nat
  a1 : Option Addr
  l1 : Nat
  c1 : Nat
  a2 : Option Addr
  l2 : Nat
  c2 : Nat
  a3 : Option Addr
  l3 : Nat
  c3 : Nat
  a4 : Option Addr
  l4 : Nat
  c4 : Nat

abbrev Mv.cells (m : Mv) (l0 : Nat) : Array Value := #[.slice m.a0 l0 m.c0, .slice m.a1 m.l1 m.c1, .slice m.a2 m.l2 m.c2, .slice m.a3 m.l3 m.c3, .slice m.a4 m.l4 m.c4]
abbrev Mv.val (m : Mv) (l0 : Nat) : Value := .agg (m.cells l0)

/-- The numbers below k of which f says yes. -/
def sel (f : Nat → Bool) (k : Nat) : List Int := ((List.range k).filter f).map (fun i : Nat => (i : Int))
theorem sel_yes {f : Nat → Bool} {k : Nat} (h : f k = true) : sel f (k + 1) = sel f k ++ [(k : Int)] := by
  simp [sel, List.range_succ, List.filter_append, h]
theorem sel_no {f : Nat → Bool} {k : Nat} (h : f k = false) : sel f (k + 1) = sel f k := by
  simp [sel, List.range_succ, List.filter_append, h]
theorem sel_len (f : Nat → Bool) (k : Nat) : (sel f k).length ≤ k := by
  have := List.length_filter_le f (List.range k)
  simpa [sel] using this

/-- Is the node of a kind? -/
def isK (ns : List Nd) (kind : Int) (i : Nat) : Bool := match ns[i]? with | some x => x.kind == kind | none => false
theorem isK_at {ns : List Nd} {kind : Int} {i : Nat} (h : i < ns.length) : isK ns kind i = (ns[i].kind == kind) := by
  unfold isK; rw [List.getElem?_eq_getElem h]

theorem owns_later {w w' : World} {base : Nat} {v : Value} {l : List Int} {o : Obj} {x : Int} {u : Value} (hu : w.ownsRow base 3 1 u l.length (l.map (Value.int .i64)))
    (hown : w'.ownsRow base 3 1 v (l.length + 1) (l.map (Value.int .i64) ++ [.int .i64 x])) (hg : (w.alloc o).grownBy w' u.ownBlock) {w0 : World} (hb : Below base w0 w) (hB : base ≤ w.heap.size) :
    w'.ownsRow base 3 1 v (l ++ [x]).length ((l ++ [x]).map (Value.int .i64)) ∧ Below base w0 w' := by
  refine ⟨by simpa using hown, (hb.alloc hB o).grown hg (by simp; omega) (fun j hj => (hu.lt j hj).1)⟩

theorem owns_later2 {w w' : World} {base : Nat} {v : Value} {l : List Int} {o o2 : Obj} {x : Int} {u : Value} (hu : w.ownsRow base 3 1 u l.length (l.map (Value.int .i64)))
    (hown : w'.ownsRow base 3 1 v (l.length + 1) (l.map (Value.int .i64) ++ [.int .i64 x])) (hg : ((w.alloc o).alloc o2).grownBy w' u.ownBlock) {w0 : World} (hb : Below base w0 w) (hB : base ≤ w.heap.size) :
    w'.ownsRow base 3 1 v (l ++ [x]).length ((l ++ [x]).map (Value.int .i64)) ∧ Below base w0 w' := by
  refine ⟨by simpa using hown, ((hb.alloc hB o).alloc (by simp; omega) o2).grown hg (by simp; omega) (fun j hj => (hu.lt j hj).1)⟩

end Go.Proofs.YtfobcnhibhbbaaaGreatDoor.Ev

namespace Go.Proofs.YtfobcnhibhbbaaaGreatDoor.Ev
open Go.RowKit
set_option maxRecDepth 100000

/-- What lies at a list of numbers. -/
def IntsAt (w : World) (p : Option Addr) (l : List Int) : Prop :=
  0 < l.length → ∃ b off, p = some ⟨b, off, none⟩ ∧ ∀ (i : Nat) (h : i < l.length), w.cell? ⟨b, off + i, none⟩ = some (.int .i64 l[i])

theorem IntsAt.later {w w1 : World} {p : Option Addr} {l : List Int} (h : IntsAt w p l) (hb : Below w.heap.size w w1) : IntsAt w1 p l := by
  intro h0
  obtain ⟨b, off, hp, hc⟩ := h h0
  exact ⟨b, off, hp, fun i hi => cell_later hb (hc i hi)⟩

theorem owns_ints {w : World} {base : Nat} {v : Value} {l : List Int} (h : w.ownsRow base 3 1 v l.length (l.map (Value.int .i64))) : ∃ p cap, v = .slice p l.length cap ∧ IntsAt w p l := by
  obtain ⟨h1, h2⟩ := h
  rcases h2 with ⟨rfl, h0⟩ | ⟨g, cap, cur, rfl, hg, hh, hn, hm, hs, ht⟩
  · refine ⟨none, 0, by rw [h0], fun h => by omega⟩
  · refine ⟨_, cap, rfl, fun _ => ⟨g, 0, rfl, fun i hi => ?_⟩⟩
    have h3 : w.ownsRow base 3 1 (.slice (some ⟨g, 0, none⟩) l.length cap) l.length (l.map (Value.int .i64)) := ⟨h1, .inr ⟨g, cap, cur, rfl, hg, hh, hn, hm, hs, ht⟩⟩
    have := h3.cellAt i (by omega)
    rw [Nat.zero_add, this, List.getElem?_map, List.getElem?_eq_getElem hi]
    rfl

set_option maxRecDepth 100000 in
set_option maxHeartbeats 1000000 in
theorem ofKind_any (p0 : Option Addr) (cap0 : Nat) (ns : List Nd) (hl : ns.length ≤ 2932031007402) (kind : Int) (w : World) (hN : NodesAt w p0 ns) :
    Calls Tryz.prog 52 #[.slice p0 ns.length cap0, .int .i64 kind] w fun e w' =>
      ∃ p cap, e = .returned (.slice p (sel (isK ns kind) ns.length).length cap) ∧ IntsAt w' p (sel (isK ns kind) ns.length) ∧ Below w.heap.size w w' := by
  obtain ⟨i0, hi, hz0, hz1, hz2⟩ := info_parts info3
  go_enter Tryz.func52, Tryz.ntmps52
  go_wp2
  go_loopw [5, 10] (fun v i wr => ∃ k : Nat, k ≤ ns.length ∧ i = .int .i64 k ∧ wr.ownsRow w.heap.size 3 1 v (sel (isK ns kind) k).length ((sel (isK ns kind) k).map (Value.int .i64)) ∧ Below w.heap.size w wr) (fun _ i _ => ns.length - (intOf i).toNat)
  case atStart => exact ⟨0, Nat.zero_le _, rfl, World.ownsRow_nil _ _ _ _, Below.refl _ _⟩
  case round =>
    obtain ⟨k, hk, rfl, hown, hbw⟩ := hrel
    have hsz := hbw.size
    by_cases hlt : k < ns.length
    · obtain ⟨b, off, rfl, hc⟩ := (hN.later hbw) (by omega)
      obtain ⟨d0, d1, d2, d3, d4, d5⟩ := hc k hlt
      have HI := hide (isK_at (kind := kind) hlt)
      clear hc
      generalize ns[k] = nd at *
      obtain ⟨kd, v, x, y, z, n⟩ := nd
      simp only at *
      cases hf : (kd == kind)
      · have HS : Hid (sel (isK ns kind) (k + 1) = sel (isK ns kind) k) := sel_no (by rw [HI.out, hf])
        clear HI
        go_wp2
        go_roundw
        case rel => exact ⟨k + 1, by omega, by go_num, by rw [HS.out]; exact hown.alloc _, bal hbw _⟩
        case measure => simp [intOf]; omega
      · have HS : Hid (sel (isK ns kind) (k + 1) = sel (isK ns kind) k ++ [(k : Int)]) := sel_yes (by rw [HI.out, hf])
        have hsl := sel_len (isK ns kind) k
        clear HI
        generalize sel (isK ns kind) k = l at *
        go_wp2_with (at_builtin; refine wpList_append_own _ rfl _ _ 24 rfl w.heap.size 3 i0 (.int .i64 0) 1 8 Tryz.underlying24 hi hz0 hz1 hz2 rfl (by decide) _ _ _ rfl ((hown.alloc _).alloc _) ⟨wr.heap.size + 1, 0, none⟩ 1 1 [.int .i64 (k : Int)] rfl rfl ?c1 ?c2 ?c3 ?c4 ?c5 ?_)
        case c1 =>
          intro j u hj
          match j, hj with
          | 0, hj => simp at hj; subst hj; simp [Addr.add]
        case c2 => intro u hu; simp at hu; subst hu; rfl
        case c3 => unfold maxLen; omega
        case c4 => omega
        case c5 => simp; omega
        intro v' w1 hown' hgrow _
        have R := owns_later2 hown hown' hgrow hbw (by omega)
        rw [← HS.out] at R
        clear hown' hgrow hown
        go_wp2
        go_roundw
        case rel => exact ⟨k + 1, by omega, by go_num, R.1, R.2⟩
        case measure => simp [intOf]; omega
    · obtain rfl : k = ns.length := by omega
      obtain ⟨p, cap, rfl, hI⟩ := owns_ints hown
      go_wp2
      go_ret
      exact ⟨p, cap, rfl, hI, hbw⟩

/-- Is it a node's number? -/
def isN (len : Nat) (x : Int) : Bool := decide (0 ≤ x) && decide (x < len)
theorem isN_true {len : Nat} {x : Int} : isN len x = true ↔ 0 ≤ x ∧ x < len := by simp [isN]
theorem isN_false {len : Nat} {x : Int} : isN len x = false ↔ ¬ (0 ≤ x ∧ x < len) := by rw [← isN_true]; simp

set_option maxHeartbeats 1000000 in
theorem isNode_any (m : Mv) (len : Nat) (_hl : len ≤ maxLen) (x : Int) (w : World) :
    Calls Tryz.prog 59 #[m.val len, .int .i64 x] w fun e w' => e = .returned (.bool (isN len x)) ∧ w' = w.alloc (.cells (m.cells len) 26) := by
  unfold maxLen at _hl
  go_enter Tryz.func59, Tryz.ntmps59
  go_wp2
  all_goals
    go_ret
    exact ⟨ret_bool (by rw [Bool.eq_iff_iff, isN_true]; simp; try omega), rfl⟩

/-- All widths of a list, added. -/
def sumW (ns : List Nd) (l : List Int) : Int := (l.map (wdOf ns)).sum
theorem sumW_take (ns : List Nd) (l : List Int) (k : Nat) (h : k < l.length) : sumW ns (l.take (k + 1)) = sumW ns (l.take k) + wdOf ns l[k] := by
  unfold sumW
  rw [List.take_succ_eq_append_getElem h]
  simp only [List.map_append, List.sum_append, List.map_cons, List.map_nil, List.sum_cons, List.sum_nil]
  omega

def Wok (ns : List Nd) : Prop := ∀ (i : Nat) (h : i < ns.length), 1 ≤ ns[i].width ∧ ns[i].width ≤ 8

theorem wdOf_bd {ns : List Nd} (h : Wok ns) (x : Int) : 0 ≤ wdOf ns x ∧ wdOf ns x ≤ 8 := by
  unfold wdOf
  by_cases hx : x.toNat < ns.length
  · rw [List.getElem?_eq_getElem hx]
    have := h _ hx
    simp only
    omega
  · rw [List.getElem?_eq_none (by omega)]
    simp

theorem sumW_bd {ns : List Nd} (h : Wok ns) (l : List Int) (k : Nat) : 0 ≤ sumW ns (l.take k) ∧ sumW ns (l.take k) ≤ 8 * k := by
  induction k with
  | zero => simp [sumW]
  | succ k ih =>
    by_cases hk : k < l.length
    · rw [sumW_take ns l k hk]
      have := wdOf_bd h l[k]
      omega
    · rw [List.take_of_length_le (by omega)] at ih ⊢
      omega

theorem sel_bd {f : Nat → Bool} {n : Nat} {k : Nat} (h : k < (sel f n).length) : 0 ≤ (sel f n)[k] ∧ (sel f n)[k] < n := by
  have key : ∀ y, y ∈ sel f n → 0 ≤ y ∧ y < n := by
    intro y hy
    unfold sel at hy
    simp only [List.mem_map, List.mem_filter, List.mem_range] at hy
    obtain ⟨a, ⟨h1, _⟩, h2⟩ := hy
    omega
  exact key _ (List.getElem_mem h)

set_option maxRecDepth 100000 in
set_option maxHeartbeats 2000000 in
theorem bitsOf_any (a0 : Option Addr) (c0 : Nat) (ns : List Nd) (hl : ns.length ≤ 80) (hW : Wok ns) (kind : Int) (w : World) (hN : NodesAt w a0 ns) :
    Calls Tryz.prog 27 #[.slice a0 ns.length c0, .int .i64 kind] w fun e w' => e = .returned (.int .i64 (sumW ns (sel (isK ns kind) ns.length))) ∧ Below w.heap.size w w' := by
  have hsl := sel_len (isK ns kind) ns.length
  have HB : Hid (∀ k, ∀ h : k < (sel (isK ns kind) ns.length).length, 0 ≤ (sel (isK ns kind) ns.length)[k] ∧ (sel (isK ns kind) ns.length)[k] < ns.length) := fun k h => sel_bd h
  have HW : Hid _ := hW
  clear hW
  go_enter Tryz.func27, Tryz.ntmps27
  go_wp2_with fail
  refine (ofKind_any a0 c0 ns (by omega) kind _ hN).mono ?_
  rintro e w1 ⟨p, cap, rfl, hI, hbw⟩
  have hN1 := hN.later hbw
  clear hN
  generalize hL : sel (isK ns kind) ns.length = l at *
  have HL : Hid _ := hL
  clear hL
  go_wp2
  go_loopw [5, 12] (fun s i wr => ∃ k : Nat, k ≤ l.length ∧ i = .int .i64 k ∧ s = .int .i64 (sumW ns (l.take k)) ∧ wr = w1) (fun _ i _ => l.length - (intOf i).toNat)
  case atStart => exact ⟨0, Nat.zero_le _, rfl, by simp [sumW], rfl⟩
  case round =>
    obtain ⟨k, hk, rfl, rfl, rfl⟩ := hrel
    by_cases hlt : k < l.length
    · obtain ⟨b, off, rfl, hc⟩ := hI (by omega)
      have hx := HB.out k hlt
      have hck := hc k hlt
      have HS : Hid _ := sumW_take ns l k hlt
      have hsb := sumW_bd HW.out l k
      have hwb := wdOf_bd HW.out l[k]
      generalize l[k] = x at *
      obtain ⟨nb, noff, hp, hnc⟩ := hN1 (by omega)
      have hw1 := wd_cell hnc x hx.1 hx.2
      clear hnc hc
      subst hp
      go_wp2
      go_roundw
      case rel => exact ⟨k + 1, by omega, by go_num, by rw [HS.out], by first | rfl | trivial⟩
      case measure => simp [intOf]; omega
    · obtain rfl : k = l.length := by omega
      go_wp2
      go_ret
      exact ⟨ret_int (by rw [List.take_length, HL.out]), hbw⟩

end Go.Proofs.YtfobcnhibhbbaaaGreatDoor.Ev
