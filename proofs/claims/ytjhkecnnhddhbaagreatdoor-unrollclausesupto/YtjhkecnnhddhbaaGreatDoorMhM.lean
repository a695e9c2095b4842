/- The small calls of the plain text: Two, Bit, Signed, yes; and choose. -/
import Derived.Test.YtjhkecnnhddhbaaGreatDoorMbM
import Derived.Deep.QuietTactic
import Derived.BigQuiet
import Derived.Deep.RegionHeld3
namespace Go.Proofs.YtjhkecnnhddhbaaGreatDoor.Ev
open Go.RowKit
set_option maxRecDepth 100000
theorem two_le (i j : Nat) (h : i ≤ j) : two i ≤ two j := by
 rw [two_nat, two_nat]
 have := Nat.pow_le_pow_right (n := 2) (by omega) h
 simp only [Int.toNat_natCast]
 omega
end Go.Proofs.YtjhkecnnhddhbaaGreatDoor.Ev

namespace Go.Proofs.YtjhkecnnhddhbaaGreatDoor.Ev
open Go.RowKit
set_option maxRecDepth 100000
def nodeE (ns : List Nd) (i : Nat) (x : Nd) : Int :=
 if btw x.kind 1 23 = false then 7 else if btw x.width 1 8 = false then 3 else if 4 ≤ x.kind then opE ns i x else leafE x
theorem takes_op {k : Int} (h : 4 ≤ k) (h2 : k ≤ 23) : takes k = 1 ∨ takes k = 2 ∨ takes k = 3 := by
 unfold takes
 (repeat' split) <;> omega
theorem checkOp_any (p : Option Addr) (cap : Nat) (ns : List Nd) (hl : ns.length ≤ 80) (i : Nat) (hi : i < ns.length) (w : World) (hN : NodesAt w p ns) (h : 4 ≤ ns[i].kind) (h2 : ns[i].kind ≤ 23) :
   Calls Tryz.prog 108 #[.slice p ns.length cap, .int .i64 i] w fun e w' => e = .returned (.int .i64 (opE ns i ns[i])) ∧ Below w.heap.size w w' := by
 rcases takes_op h h2 with ht | ht | ht
 · exact checkOp_1 p cap ns hl i hi w hN ht
 · exact checkOp_2 p cap ns hl i hi w hN ht
 · exact checkOp_3 p cap ns hl i hi w hN ht
theorem NodesAt.later {w w1 : World} {p : Option Addr} {ns : List Nd} (h : NodesAt w p ns) (hb : Below w.heap.size w w1) : NodesAt w1 p ns := by
 intro h0
 obtain ⟨b, off, hp, hc⟩ := h h0
 refine ⟨b, off, hp, fun i hi => ?_⟩
 obtain ⟨c0, c1, c2, c3, c4, c5⟩ := hc i hi
 exact ⟨cell_later hb c0, cell_later hb c1, cell_later hb c2, cell_later hb c3, cell_later hb c4, cell_later hb c5⟩
set_option maxRecDepth 100000 in
set_option maxHeartbeats 1000000 in
theorem checkNode_any (p : Option Addr) (cap : Nat) (ns : List Nd) (hl : ns.length ≤ 80) (i : Nat) (hi : i < ns.length) (w : World) (hN : NodesAt w p ns) :
   Calls Tryz.prog 86 #[.slice p ns.length cap, .int .i64 i] w fun e w' => e = .returned (.int .i64 (nodeE ns i ns[i])) ∧ Below w.heap.size w w' := by
 have hN2 := hN
 obtain ⟨b, off, rfl, hc⟩ := hN (by omega)
 obtain ⟨c0, c1, c2, c3, c4, c5⟩ := hc i hi
 have hi2 : (i : Int) < (ns.length : Int) := by omega
 have HO : Hid (∀ w1, Below w.heap.size w w1 → 4 ≤ ns[i].kind → ns[i].kind ≤ 23 → Calls Tryz.prog 108 #[.slice (some ⟨b, off, none⟩) ns.length cap, .int .i64 i] w1 fun e w' => e = .returned (.int .i64 (opE ns i ns[i])) ∧ Below w1.heap.size w1 w') :=
   fun w1 hb h h2 => checkOp_any _ cap ns hl i hi w1 (hN2.later hb) h h2
 clear hN hN2 hc
 generalize ns[i] = nd at *
 obtain ⟨k, v, x, y, z, n⟩ := nd
 simp only at *
 by_cases hk : btw k 1 23 = true
 · by_cases hv : btw v 1 8 = true
   · have hk2 := btw_true.1 hk
     have hv2 := btw_true.1 hv
     by_cases h4 : 4 ≤ k
     · have ho : btw k 4 23 = true := btw_true.2 (by omega)
       have HE : Hid (nodeE ns i ⟨k, v, x, y, z, n⟩ = opE ns i ⟨k, v, x, y, z, n⟩) := by
         unfold nodeE; rw [if_neg (by simp [hk]), if_neg (by simp [hv]), if_pos h4]; rfl
       generalize nodeE ns i ⟨k, v, x, y, z, n⟩ = R at *
       generalize opE ns i ⟨k, v, x, y, z, n⟩ = R2 at *
       go_enter Tryz.func86, Tryz.ntmps86
       go_wp2_with (first | (go_at_call 105; refine (isKind_any _ _).mono ?_; rintro e w' ⟨rfl, rfl⟩) | (go_at_call 106; refine (isWidth_any _ _).mono ?_; rintro e w' ⟨rfl, rfl⟩) | (go_at_call 107; refine (isOp_any _ _).mono ?_; rintro e w' ⟨rfl, rfl⟩))
       refine (HO.out _ (bal (Below.refl _ _) _) h4 hk2.2).mono ?_
       rintro e w1 ⟨rfl, hb1⟩
       go_wp2
       go_ret
       exact ⟨ret_int HE.out.symm, bthen (bal (Below.refl _ _) _) hb1⟩
     · have ho : btw k 4 23 = false := btw_false.2 (by omega)
       have HE : Hid (nodeE ns i ⟨k, v, x, y, z, n⟩ = leafE ⟨k, v, x, y, z, n⟩) := by
         unfold nodeE; rw [if_neg (by simp [hk]), if_neg (by simp [hv]), if_neg h4]; rfl
       generalize nodeE ns i ⟨k, v, x, y, z, n⟩ = R at *
       go_enter Tryz.func86, Tryz.ntmps86
       go_wp2_with (first | (go_at_call 105; refine (isKind_any _ _).mono ?_; rintro e w' ⟨rfl, rfl⟩) | (go_at_call 106; refine (isWidth_any _ _).mono ?_; rintro e w' ⟨rfl, rfl⟩) | (go_at_call 107; refine (isOp_any _ _).mono ?_; rintro e w' ⟨rfl, rfl⟩))
       refine (leaf_any _ _ _ _ _ _ (by omega) _).mono ?_
       rintro e w1 ⟨rfl, hb1⟩
       go_wp2
       go_ret
       exact ⟨ret_int HE.out.symm, bthen (bal (Below.refl _ _) _) hb1⟩
   · have hv' : btw v 1 8 = false := by simpa using hv
     have HE : Hid (nodeE ns i ⟨k, v, x, y, z, n⟩ = 3) := by
       unfold nodeE; rw [if_neg (by simp [hk]), if_pos hv']; rfl
     clear hv
     go_enter Tryz.func86, Tryz.ntmps86
     go_wp2_with (first | (go_at_call 105; refine (isKind_any _ _).mono ?_; rintro e w' ⟨rfl, rfl⟩) | (go_at_call 106; refine (isWidth_any _ _).mono ?_; rintro e w' ⟨rfl, rfl⟩))
     go_ret
     exact ⟨ret_int HE.out.symm, bal (Below.refl _ _) _⟩
 · have hk' : btw k 1 23 = false := by simpa using hk
   have HE : Hid (nodeE ns i ⟨k, v, x, y, z, n⟩ = 7) := by
     unfold nodeE; rw [if_pos hk']; rfl
   clear hk
   go_enter Tryz.func86, Tryz.ntmps86
   go_wp2_with (go_at_call 105; refine (isKind_any _ _).mono ?_; rintro e w' ⟨rfl, rfl⟩)
   go_ret
   exact ⟨ret_int HE.out.symm, bal (Below.refl _ _) _⟩
end Go.Proofs.YtjhkecnnhddhbaaGreatDoor.Ev

namespace Go.Proofs.YtjhkecnnhddhbaaGreatDoor.Ev
open Go.RowKit
set_option maxRecDepth 100000
theorem info3 : (Tryz.prog.info? 3).map (fun i => (i.zero, i.size, i.bytes)) = some (some (.int .i64 0), 1, 8) := by kernel_rfl
theorem hide {p : Prop} (h : p) : Hid p := h
structure Mv where
 a0 : Option Addr
 c0 : Nat
 a1 : Option Addr
 l1 : Nat
 c1 : Nat
 a2 : Option Addr
 l2 : Nat
 c2 : Nat
 a3 : Option Addr
 l3 : Nat
 c3 : Nat
 a4 : Option Addr
 l4 : Nat
 c4 : Nat
abbrev Mv.cells (m : Mv) (l0 : Nat) : Array Value := #[.slice m.a0 l0 m.c0, .slice m.a1 m.l1 m.c1, .slice m.a2 m.l2 m.c2, .slice m.a3 m.l3 m.c3, .slice m.a4 m.l4 m.c4]
abbrev Mv.val (m : Mv) (l0 : Nat) : Value := .agg (m.cells l0)
def sel (f : Nat → Bool) (k : Nat) : List Int := ((List.range k).filter f).map (fun i : Nat => (i : Int))
theorem sel_yes {f : Nat → Bool} {k : Nat} (h : f k = true) : sel f (k + 1) = sel f k ++ [(k : Int)] := by
 simp [sel, List.range_succ, List.filter_append, h]
theorem sel_no {f : Nat → Bool} {k : Nat} (h : f k = false) : sel f (k + 1) = sel f k := by
 simp [sel, List.range_succ, List.filter_append, h]
theorem sel_len (f : Nat → Bool) (k : Nat) : (sel f k).length ≤ k := by
 have := List.length_filter_le f (List.range k)
 simpa [sel] using this
def isK (ns : List Nd) (kind : Int) (i : Nat) : Bool := match ns[i]? with | some x => x.kind == kind | none => false
theorem isK_at {ns : List Nd} {kind : Int} {i : Nat} (h : i < ns.length) : isK ns kind i = (ns[i].kind == kind) := by
 unfold isK; rw [List.getElem?_eq_getElem h]
theorem owns_later {w w' : World} {base : Nat} {v : Value} {l : List Int} {o : Obj} {x : Int} {u : Value} (hu : w.ownsRow base 3 1 u l.length (l.map (Value.int .i64)))
   (hown : w'.ownsRow base 3 1 v (l.length + 1) (l.map (Value.int .i64) ++ [.int .i64 x])) (hg : (w.alloc o).grownBy w' u.ownBlock) {w0 : World} (hb : Below base w0 w) (hB : base ≤ w.heap.size) :
   w'.ownsRow base 3 1 v (l ++ [x]).length ((l ++ [x]).map (Value.int .i64)) ∧ Below base w0 w' := by
 refine ⟨by simpa using hown, (hb.alloc hB o).grown hg (by simp; omega) (fun j hj => (hu.lt j hj).1)⟩
theorem owns_later2 {w w' : World} {base : Nat} {v : Value} {l : List Int} {o o2 : Obj} {x : Int} {u : Value} (hu : w.ownsRow base 3 1 u l.length (l.map (Value.int .i64)))
   (hown : w'.ownsRow base 3 1 v (l.length + 1) (l.map (Value.int .i64) ++ [.int .i64 x])) (hg : ((w.alloc o).alloc o2).grownBy w' u.ownBlock) {w0 : World} (hb : Below base w0 w) (hB : base ≤ w.heap.size) :
   w'.ownsRow base 3 1 v (l ++ [x]).length ((l ++ [x]).map (Value.int .i64)) ∧ Below base w0 w' := by
 refine ⟨by simpa using hown, ((hb.alloc hB o).alloc (by simp; omega) o2).grown hg (by simp; omega) (fun j hj => (hu.lt j hj).1)⟩
end Go.Proofs.YtjhkecnnhddhbaaGreatDoor.Ev

namespace Go.Proofs.YtjhkecnnhddhbaaGreatDoor.Ev
open Go.RowKit
set_option maxRecDepth 100000
def IntsAt (w : World) (p : Option Addr) (l : List Int) : Prop :=
 0 < l.length → ∃ b off, p = some ⟨b, off, none⟩ ∧ ∀ (i : Nat) (h : i < l.length), w.cell? ⟨b, off + i, none⟩ = some (.int .i64 l[i])
theorem IntsAt.later {w w1 : World} {p : Option Addr} {l : List Int} (h : IntsAt w p l) (hb : Below w.heap.size w w1) : IntsAt w1 p l := by
 intro h0
 obtain ⟨b, off, hp, hc⟩ := h h0
 exact ⟨b, off, hp, fun i hi => cell_later hb (hc i hi)⟩
theorem owns_ints {w : World} {base : Nat} {v : Value} {l : List Int} (h : w.ownsRow base 3 1 v l.length (l.map (Value.int .i64))) : ∃ p cap, v = .slice p l.length cap ∧ IntsAt w p l := by
 obtain ⟨h1, h2⟩ := h
 rcases h2 with ⟨rfl, h0⟩ | ⟨g, cap, cur, rfl, hg, hh, hn, hm, hs, ht⟩
 · refine ⟨none, 0, by rw [h0], fun h => by omega⟩
 · refine ⟨_, cap, rfl, fun _ => ⟨g, 0, rfl, fun i hi => ?_⟩⟩
   have h3 : w.ownsRow base 3 1 (.slice (some ⟨g, 0, none⟩) l.length cap) l.length (l.map (Value.int .i64)) := ⟨h1, .inr ⟨g, cap, cur, rfl, hg, hh, hn, hm, hs, ht⟩⟩
   have := h3.cellAt i (by omega)
   rw [Nat.zero_add, this, List.getElem?_map, List.getElem?_eq_getElem hi]
   rfl
set_option maxRecDepth 100000 in
set_option maxHeartbeats 1000000 in
theorem ofKind_any (p0 : Option Addr) (cap0 : Nat) (ns : List Nd) (hl : ns.length ≤ 2932031007402) (kind : Int) (w : World) (hN : NodesAt w p0 ns) :
   Calls Tryz.prog 89 #[.slice p0 ns.length cap0, .int .i64 kind] w fun e w' =>
     ∃ p cap, e = .returned (.slice p (sel (isK ns kind) ns.length).length cap) ∧ IntsAt w' p (sel (isK ns kind) ns.length) ∧ Below w.heap.size w w' := by
 obtain ⟨i0, hi, hz0, hz1, hz2⟩ := info_parts info3
 go_enter Tryz.func89, Tryz.ntmps89
 go_wp2
 go_loopw [5, 10] (fun v i wr => ∃ k : Nat, k ≤ ns.length ∧ i = .int .i64 k ∧ wr.ownsRow w.heap.size 3 1 v (sel (isK ns kind) k).length ((sel (isK ns kind) k).map (Value.int .i64)) ∧ Below w.heap.size w wr) (fun _ i _ => ns.length - (intOf i).toNat)
 case atStart => exact ⟨0, Nat.zero_le _, rfl, World.ownsRow_nil _ _ _ _, Below.refl _ _⟩
 case round =>
   obtain ⟨k, hk, rfl, hown, hbw⟩ := hrel
   have hsz := hbw.size
   by_cases hlt : k < ns.length
   · obtain ⟨b, off, rfl, hc⟩ := (hN.later hbw) (by omega)
     obtain ⟨d0, d1, d2, d3, d4, d5⟩ := hc k hlt
     have HI := hide (isK_at (kind := kind) hlt)
     clear hc
     generalize ns[k] = nd at *
     obtain ⟨kd, v, x, y, z, n⟩ := nd
     simp only at *
     cases hf : (kd == kind)
     · have HS : Hid (sel (isK ns kind) (k + 1) = sel (isK ns kind) k) := sel_no (by rw [HI.out, hf])
       clear HI
       go_wp2
       go_roundw
       case rel => exact ⟨k + 1, by omega, by go_num, by rw [HS.out]; exact hown.alloc _, bal hbw _⟩
       case measure => simp [intOf]; omega
     · have HS : Hid (sel (isK ns kind) (k + 1) = sel (isK ns kind) k ++ [(k : Int)]) := sel_yes (by rw [HI.out, hf])
       have hsl := sel_len (isK ns kind) k
       clear HI
       generalize sel (isK ns kind) k = l at *
       go_wp2_with (at_builtin; refine wpList_append_own _ rfl _ _ 25 rfl w.heap.size 3 i0 (.int .i64 0) 1 8 Tryz.underlying25 hi hz0 hz1 hz2 rfl (by decide) _ _ _ rfl ((hown.alloc _).alloc _) ⟨wr.heap.size + 1, 0, none⟩ 1 1 [.int .i64 (k : Int)] rfl rfl ?c1 ?c2 ?c3 ?c4 ?c5 ?_)
       case c1 =>
         intro j u hj
         match j, hj with
         | 0, hj => simp at hj; subst hj; simp [Addr.add]
       case c2 => intro u hu; simp at hu; subst hu; rfl
       case c3 => unfold maxLen; omega
       case c4 => omega
       case c5 => simp; omega
       intro v' w1 hown' hgrow _
       have R := owns_later2 hown hown' hgrow hbw (by omega)
       rw [← HS.out] at R
       clear hown' hgrow hown
       go_wp2
       go_roundw
       case rel => exact ⟨k + 1, by omega, by go_num, R.1, R.2⟩
       case measure => simp [intOf]; omega
   · obtain rfl : k = ns.length := by omega
     obtain ⟨p, cap, rfl, hI⟩ := owns_ints hown
     go_wp2
     go_ret
     exact ⟨p, cap, rfl, hI, hbw⟩
def isN (len : Nat) (x : Int) : Bool := decide (0 ≤ x) && decide (x < len)
theorem isN_true {len : Nat} {x : Int} : isN len x = true ↔ 0 ≤ x ∧ x < len := by simp [isN]
set_option maxHeartbeats 1000000 in
theorem isNode_any (m : Mv) (len : Nat) (_hl : len ≤ maxLen) (x : Int) (w : World) :
   Calls Tryz.prog 116 #[m.val len, .int .i64 x] w fun e w' => e = .returned (.bool (isN len x)) ∧ w' = w.alloc (.cells (m.cells len) 65) := by
 unfold maxLen at _hl
 go_enter Tryz.func116, Tryz.ntmps116
 go_wp2
 all_goals
   go_ret
   exact ⟨ret_bool (by rw [Bool.eq_iff_iff, isN_true]; simp; try omega), rfl⟩
def sumW (ns : List Nd) (l : List Int) : Int := (l.map (wdOf ns)).sum
theorem sumW_take (ns : List Nd) (l : List Int) (k : Nat) (h : k < l.length) : sumW ns (l.take (k + 1)) = sumW ns (l.take k) + wdOf ns l[k] := by
 unfold sumW
 rw [List.take_succ_eq_append_getElem h]
 simp only [List.map_append, List.sum_append, List.map_cons, List.map_nil, List.sum_cons, List.sum_nil]
 omega
def Wok (ns : List Nd) : Prop := ∀ (i : Nat) (h : i < ns.length), 1 ≤ ns[i].width ∧ ns[i].width ≤ 8
theorem wdOf_bd {ns : List Nd} (h : Wok ns) (x : Int) : 0 ≤ wdOf ns x ∧ wdOf ns x ≤ 8 := by
 unfold wdOf
 by_cases hx : x.toNat < ns.length
 · rw [List.getElem?_eq_getElem hx]
   have := h _ hx
   simp only
   omega
 · rw [List.getElem?_eq_none (by omega)]
   simp
theorem sumW_bd {ns : List Nd} (h : Wok ns) (l : List Int) (k : Nat) : 0 ≤ sumW ns (l.take k) ∧ sumW ns (l.take k) ≤ 8 * k := by
 induction k with
 | zero => simp [sumW]
 | succ k ih =>
   by_cases hk : k < l.length
   · rw [sumW_take ns l k hk]
     have := wdOf_bd h l[k]
     omega
   · rw [List.take_of_length_le (by omega)] at ih ⊢
     omega
theorem sel_bd {f : Nat → Bool} {n : Nat} {k : Nat} (h : k < (sel f n).length) : 0 ≤ (sel f n)[k] ∧ (sel f n)[k] < n := by
 have key : ∀ y, y ∈ sel f n → 0 ≤ y ∧ y < n := by
   intro y hy
   unfold sel at hy
   simp only [List.mem_map, List.mem_filter, List.mem_range] at hy
   obtain ⟨a, ⟨h1, _⟩, h2⟩ := hy
   omega
 exact key _ (List.getElem_mem h)
set_option maxRecDepth 100000 in
set_option maxHeartbeats 2000000 in
theorem bitsOf_any (a0 : Option Addr) (c0 : Nat) (ns : List Nd) (hl : ns.length ≤ 80) (hW : Wok ns) (kind : Int) (w : World) (hN : NodesAt w a0 ns) :
   Calls Tryz.prog 76 #[.slice a0 ns.length c0, .int .i64 kind] w fun e w' => e = .returned (.int .i64 (sumW ns (sel (isK ns kind) ns.length))) ∧ Below w.heap.size w w' := by
 have hsl := sel_len (isK ns kind) ns.length
 have HB : Hid (∀ k, ∀ h : k < (sel (isK ns kind) ns.length).length, 0 ≤ (sel (isK ns kind) ns.length)[k] ∧ (sel (isK ns kind) ns.length)[k] < ns.length) := fun k h => sel_bd h
 have HW : Hid _ := hW
 clear hW
 go_enter Tryz.func76, Tryz.ntmps76
 go_wp2_with fail
 refine (ofKind_any a0 c0 ns (by omega) kind _ hN).mono ?_
 rintro e w1 ⟨p, cap, rfl, hI, hbw⟩
 have hN1 := hN.later hbw
 clear hN
 generalize hL : sel (isK ns kind) ns.length = l at *
 have HL : Hid _ := hL
 clear hL
 go_wp2
 go_loopw [5, 12] (fun s i wr => ∃ k : Nat, k ≤ l.length ∧ i = .int .i64 k ∧ s = .int .i64 (sumW ns (l.take k)) ∧ wr = w1) (fun _ i _ => l.length - (intOf i).toNat)
 case atStart => exact ⟨0, Nat.zero_le _, rfl, by simp [sumW], rfl⟩
 case round =>
   obtain ⟨k, hk, rfl, rfl, rfl⟩ := hrel
   by_cases hlt : k < l.length
   · obtain ⟨b, off, rfl, hc⟩ := hI (by omega)
     have hx := HB.out k hlt
     have hck := hc k hlt
     have HS : Hid _ := sumW_take ns l k hlt
     have hsb := sumW_bd HW.out l k
     have hwb := wdOf_bd HW.out l[k]
     generalize l[k] = x at *
     obtain ⟨nb, noff, hp, hnc⟩ := hN1 (by omega)
     have hw1 := wd_cell hnc x hx.1 hx.2
     clear hnc hc
     subst hp
     go_wp2
     go_roundw
     case rel => exact ⟨k + 1, by omega, by go_num, by rw [HS.out], by first | rfl | trivial⟩
     case measure => simp [intOf]; omega
   · obtain rfl : k = l.length := by omega
     go_wp2
     go_ret
     exact ⟨ret_int (by rw [List.take_length, HL.out]), hbw⟩
end Go.Proofs.YtjhkecnnhddhbaaGreatDoor.Ev

namespace Go.Proofs.YtjhkecnnhddhbaaGreatDoor.Ev
open Go.RowKit
set_option maxRecDepth 100000
def findE (f : Int → Bool) (l : List Int) : Int := match l.findIdx? f with | some i => (i : Int) | none => -1
theorem findE_ge (f : Int → Bool) (l : List Int) : decide (0 ≤ findE f l) = l.any f := by
 unfold findE
 cases h : l.findIdx? f with
 | none =>
   rw [List.findIdx?_eq_none_iff] at h
   have : l.any f = false := by rw [List.any_eq_false]; intro x hx; simp [h x hx]
   rw [this]; rfl
 | some i =>
   have : l.any f = true := by
     rw [List.any_eq_true]
     rw [List.findIdx?_eq_some_iff_getElem] at h
     obtain ⟨h1, h2, _⟩ := h
     exact ⟨l[i], List.getElem_mem h1, h2⟩
   rw [this]
   simp
theorem findE_hit (f : Int → Bool) (l : List Int) (k : Nat) (hk : k < l.length) (h : ∀ i (hi : i < l.length), i < k → f l[i] = false) (hf : f l[k] = true) : findE f l = k := by
 have : l.findIdx? f = some k := by
   rw [List.findIdx?_eq_some_iff_getElem]
   exact ⟨hk, hf, fun j hj => by simp [h j (by omega) hj]⟩
 unfold findE
 rw [this]
theorem findE_miss (f : Int → Bool) (l : List Int) (h : ∀ i (hi : i < l.length), f l[i] = false) : findE f l = -1 := by
 have : l.findIdx? f = none := by
   rw [List.findIdx?_eq_none_iff]
   intro x hx
   obtain ⟨i, hi, rfl⟩ := List.getElem_of_mem hx
   exact h i hi
 unfold findE
 rw [this]
set_option maxRecDepth 100000 in
set_option maxHeartbeats 2000000 in
theorem indexFunc_any (fn : FuncId) (c : Value) (f : Int → Bool) (l : List Int) (p : Option Addr) (cap : Nat) (w : World) (hl : l.length ≤ maxLen) (hI : IntsAt w p l) (hent : ∀ (args : Array Value) (w : World), (callFunc fn args).run Tryz.prog w = .ok (.enter fn args) w)
   (hcl : ∀ wr, Below w.heap.size w wr → ∀ i (h : i < l.length), Calls Tryz.prog fn #[.int .i64 l[i], c] wr fun e w' => e = .returned (.bool (f l[i])) ∧ Below wr.heap.size wr w') :
   Calls Tryz.prog 50 #[.slice p l.length cap, .func (.func fn) #[] #[c]] w fun e w' => e = .returned (.int .i64 (findE f l)) ∧ Below w.heap.size w w' := by
 have HC : Hid _ := hcl
 unfold maxLen at hl
 clear hcl
 go_enter Tryz.func50, Tryz.ntmps50
 go_wp2
 go_loopw [8] (fun i wr => ∃ k : Nat, k ≤ l.length ∧ i = .int .i64 k ∧ Hid (∀ i (hi : i < l.length), i < k → f l[i] = false) ∧ Below w.heap.size w wr) (fun i _ => l.length - (intOf i).toNat)
 case atStart => exact ⟨0, Nat.zero_le _, rfl, fun i hi h => by omega, Below.refl _ _⟩
 case round =>
   obtain ⟨k, hk, rfl, hno, hbw⟩ := hrel
   by_cases hlt : k < l.length
   · obtain ⟨b, off, rfl, hc⟩ := (hI.later hbw) (by omega)
     have hck := hc k hlt
     have hcall := HC.out wr hbw k hlt
     have HH : Hid _ := findE_hit f l k hlt hno.out
     clear hc
     cases hf : f l[k]
     · have HN : Hid (∀ i (hi : i < l.length), i < k + 1 → f l[i] = false) := by
         intro i hi h
         rcases Nat.lt_succ_iff_lt_or_eq.1 h with h1 | rfl
         · exact hno.out i hi h1
         · exact hf
       rw [hf] at hcall
       have HCC : Hid (Unit → _) := fun _ => hcall
       clear hcall hf hno HH
       generalize l[k] = x at *
       go_wp2_with fail
       refine (HCC.out ()).mono ?_
       rintro e w' ⟨rfl, hb2⟩
       go_wp2
       go_roundw
       case rel => exact ⟨k + 1, by omega, by go_num, HN, bthen hbw hb2⟩
       case measure => simp [intOf]; omega
     · rw [hf] at hcall
       have HCC : Hid (Unit → _) := fun _ => hcall
       have HV : Hid (findE f l = k) := HH.out hf
       clear hcall hf hno HH
       generalize l[k] = x at *
       go_wp2_with fail
       refine (HCC.out ()).mono ?_
       rintro e w' ⟨rfl, hb2⟩
       go_wp2
       go_ret
       exact ⟨ret_int HV.out.symm, bthen hbw hb2⟩
   · have HV : Hid (findE f l = -1) := findE_miss f l (fun i hi => hno.out i hi (by omega))
     go_wp2
     go_ret
     exact ⟨ret_int HV.out.symm, hbw⟩
theorem containsFunc_any (fn : FuncId) (c : Value) (f : Int → Bool) (l : List Int) (p : Option Addr) (cap : Nat) (w : World) (hl : l.length ≤ maxLen) (hI : IntsAt w p l) (hent : ∀ (args : Array Value) (w : World), (callFunc fn args).run Tryz.prog w = .ok (.enter fn args) w)
   (hcl : ∀ wr, Below w.heap.size w wr → ∀ i (h : i < l.length), Calls Tryz.prog fn #[.int .i64 l[i], c] wr fun e w' => e = .returned (.bool (f l[i])) ∧ Below wr.heap.size wr w') :
   Calls Tryz.prog 18 #[.slice p l.length cap, .func (.func fn) #[] #[c]] w fun e w' => e = .returned (.bool (l.any f)) ∧ Below w.heap.size w w' := by
 have HC := fun _ : Unit => indexFunc_any fn c f l p cap w hl hI hent hcl
 have HG : Hid _ := findE_ge f l
 have HCC : Hid _ := HC
 clear HC hcl hent
 generalize findE f l = x at *
 go_enter Tryz.func18, Tryz.ntmps18
 go_wp2_with fail
 refine (HCC.out ()).mono ?_
 rintro e w' ⟨rfl, hb2⟩
 go_wp2
 go_ret
 exact ⟨ret_bool HG.out, hb2⟩
end Go.Proofs.YtjhkecnnhddhbaaGreatDoor.Ev

namespace Go.Proofs.YtjhkecnnhddhbaaGreatDoor.Ev
open Go.RowKit
set_option maxRecDepth 100000
def opsL (x : Nd) : List Int := [x.a, x.b, x.c].take (takes x.kind).toNat
theorem ints3 {w : World} {g : Nat} {x y z : Int} (t : Nat) (ht : t ≤ 3) (h0 : w.cell? ⟨g, 0, none⟩ = some (.int .i64 x)) (h1 : w.cell? ⟨g, 1, none⟩ = some (.int .i64 y)) (h2 : w.cell? ⟨g, 2, none⟩ = some (.int .i64 z)) :
   IntsAt w (some ⟨g, 0, none⟩) ([x, y, z].take t) := by
 intro _
 refine ⟨g, 0, rfl, fun i hi => ?_⟩
 have : i < 3 := by simp at hi; omega
 rw [List.getElem_take]
 match i, this with
 | 0, _ => simpa using h0
 | 1, _ => simpa using h1
 | 2, _ => simpa using h2
set_option maxRecDepth 100000 in
set_option maxHeartbeats 2000000 in
theorem operands_at (k v x y z n : Int) (t : Nat) (ht : takes k = t) (h4 : t = 0 ∨ t = 1 ∨ t = 2 ∨ t = 3) (w : World) :
   Calls Tryz.prog 123 #[.agg #[.int .i64 k, .int .i64 v, .int .i64 x, .int .i64 y, .int .i64 z, .int .i64 n]] w fun e w' =>
     ∃ g, e = .returned (.slice (some ⟨g, 0, none⟩) t 3) ∧ IntsAt w' (some ⟨g, 0, none⟩) ([x, y, z].take t) ∧ Below w.heap.size w w' := by
 have hw := words_any k
 rw [ht] at hw
 have Hw : Hid _ := hw
 clear hw ht
 rcases h4 with rfl | rfl | rfl | rfl
 all_goals
   go_enter Tryz.func123, Tryz.ntmps123
   go_wp2
   have z0 : (w.alloc (.cells #[.int .i64 k, .int .i64 v, .int .i64 x, .int .i64 y, .int .i64 z, .int .i64 n] 93)).cell? ⟨w.heap.size, 0, none⟩ = some (.int .i64 k) := by simp [go_sem]
   have z2 : (w.alloc (.cells #[.int .i64 k, .int .i64 v, .int .i64 x, .int .i64 y, .int .i64 z, .int .i64 n] 93)).cell? ⟨w.heap.size, 2, none⟩ = some (.int .i64 x) := by simp [go_sem]
   have z3 : (w.alloc (.cells #[.int .i64 k, .int .i64 v, .int .i64 x, .int .i64 y, .int .i64 z, .int .i64 n] 93)).cell? ⟨w.heap.size, 3, none⟩ = some (.int .i64 y) := by simp [go_sem]
   have z4 : (w.alloc (.cells #[.int .i64 k, .int .i64 v, .int .i64 x, .int .i64 y, .int .i64 z, .int .i64 n] 93)).cell? ⟨w.heap.size, 4, none⟩ = some (.int .i64 z) := by simp [go_sem]
   have hbx : Below w.heap.size w (w.alloc (.cells #[.int .i64 k, .int .i64 v, .int .i64 x, .int .i64 y, .int .i64 z, .int .i64 n] 93)) := bal (Below.refl _ _) _
   have hgt : w.heap.size < (w.alloc (.cells #[.int .i64 k, .int .i64 v, .int .i64 x, .int .i64 y, .int .i64 z, .int .i64 n] 93)).heap.size := by simp
   generalize w.alloc (.cells #[.int .i64 k, .int .i64 v, .int .i64 x, .int .i64 y, .int .i64 z, .int .i64 n] 93) = wb at *
   go_region_held3 (fun w' => w'.cell? ⟨w.heap.size, 0, none⟩ = some (.int .i64 k) ∧ w'.cell? ⟨w.heap.size, 2, none⟩ = some (.int .i64 x) ∧ w'.cell? ⟨w.heap.size, 3, none⟩ = some (.int .i64 y) ∧ w'.cell? ⟨w.heap.size, 4, none⟩ = some (.int .i64 z)) (go_keep) ((go_at_call 131; refine (Hw.out _).mono ?_; rintro e w' ⟨rfl, rfl⟩))
   all_goals
     go_wp2
     go_ret
     refine ⟨wb.heap.size, rfl, ints3 _ (by omega) (by simp [go_sem]) (by simp [go_sem]) (by simp [go_sem]), ?_⟩
     exact (bal hbx _).drew
theorem takes_nat (k : Int) : takes k = ((takes k).toNat : Int) ∧ ((takes k).toNat = 0 ∨ (takes k).toNat = 1 ∨ (takes k).toNat = 2 ∨ (takes k).toNat = 3) := by
 have := takes_four k
 omega
theorem opsL_len (x : Nd) : (opsL x).length = (takes x.kind).toNat := by
 unfold opsL
 have := takes_four x.kind
 simp
 omega
theorem operands_any (x : Nd) (w : World) :
   Calls Tryz.prog 123 #[.agg #[.int .i64 x.kind, .int .i64 x.width, .int .i64 x.a, .int .i64 x.b, .int .i64 x.c, .int .i64 x.n]] w fun e w' =>
     ∃ p cap, e = .returned (.slice p (opsL x).length cap) ∧ IntsAt w' p (opsL x) ∧ Below w.heap.size w w' := by
 obtain ⟨h1, h2⟩ := takes_nat x.kind
 refine (operands_at x.kind x.width x.a x.b x.c x.n (takes x.kind).toNat h1 h2 w).mono ?_
 rintro e w' ⟨g, rfl, hI, hb⟩
 exact ⟨some ⟨g, 0, none⟩, 3, by rw [opsL_len], hI, hb⟩
def hgs (ns : List Nd) : Nat → List Bool
 | 0 => []
 | k + 1 => hgs ns k ++ [match ns[k]? with
   | some x => x.kind == 2 || x.kind == 3 || (opsL x).any (fun y => (hgs ns k).getD y.toNat false)
   | none => false]
theorem hgs_len (ns : List Nd) (k : Nat) : (hgs ns k).length = k := by
 induction k with
 | zero => rfl
 | succ k ih => simp [hgs, ih]
theorem hgs_at (ns : List Nd) (k : Nat) (h : k < ns.length) : hgs ns (k + 1) = hgs ns k ++ [ns[k].kind == 2 || ns[k].kind == 3 || (opsL ns[k]).any (fun y => (hgs ns k).getD y.toNat false)] := by
 show hgs ns k ++ _ = _
 rw [List.getElem?_eq_getElem h]
def BRow (w : World) (g : Nat) (bs : List Bool) : Prop := ∀ (j : Nat) (h : j < bs.length), w.cell? ⟨g, j, none⟩ = some (.bool bs[j]) ∧ w.frozen? ⟨g, j, none⟩ = false
theorem enter79' (args : Array Value) (w : World) : (callFunc 134 args).run Tryz.prog w = .ok (.enter 134 args) w := by kernel_rfl
set_option maxHeartbeats 400000 in
theorem hangs1_any (x : Int) (B g len cap : Nat) (bs : List Bool) (w : World) (hl : bs.length = len) (_hl2 : len ≤ maxLen) (h0 : 0 ≤ x) (h1 : x < len) (hB : w.cell? ⟨B, 0, none⟩ = some (.slice (some ⟨g, 0, none⟩) len cap)) (hR : BRow w g bs) :
   Calls Tryz.prog 134 #[.int .i64 x, .pointer (some ⟨B, 0, none⟩)] w fun e w' => e = .returned (.bool (bs.getD x.toNat false)) ∧ w' = w := by
 have hc := (hR x.toNat (by omega)).1
 have HE : Hid (bs.getD x.toNat false = bs[x.toNat]) := by simp [List.getD, List.getElem?_eq_getElem (show x.toNat < bs.length from by omega), Hid]
 unfold maxLen at _hl2
 generalize bs[x.toNat] = y at *
 clear hR
 go_enter Tryz.func134, Tryz.ntmps134
 go_wp2
 go_ret
 exact ⟨ret_bool HE.out.symm, rfl⟩
end Go.Proofs.YtjhkecnnhddhbaaGreatDoor.Ev

namespace Go.Proofs.YtjhkecnnhddhbaaGreatDoor.Ev
open Go.RowKit
set_option maxRecDepth 100000
theorem info4 : (Tryz.prog.info? 4).map (fun i => (i.zero, i.size, i.bytes)) = some (some (.bool false), 1, 1) := by kernel_rfl
theorem frozen_later {w wx : World} {a : Addr} {v : Value} (hb : Below w.heap.size w wx) (h : w.cell? a = some v) (hf : w.frozen? a = false) : wx.frozen? a = false :=
 (hb.frozen (World.block_lt_of_cell? _ _ h)).trans hf
theorem BRow.later {w w1 : World} {g : Nat} {bs : List Bool} (h : BRow w g bs) (hb : Below w.heap.size w w1) : BRow w1 g bs := fun j hj =>
 ⟨cell_later hb (h j hj).1, frozen_later hb (h j hj).1 (h j hj).2⟩
theorem BRow.set {w : World} {g : Nat} {bs : List Bool} (h : BRow w g bs) (k : Nat) (b : Bool) : BRow (w.setCell ⟨g, k, none⟩ (.bool b)) g (bs.set k b) := by
 intro j hj
 have hj' : j < bs.length := by simpa using hj
 refine ⟨?_, (World.frozen?_setCell _ _ _ _).trans (h j hj').2⟩
 by_cases e : k = j
 · subst e
   rw [World.cell?_setCell_same _ _ _ (h k hj').1]
   simp
 · rw [World.cell?_setCell_other _ _ _ _ (by simp), (h j hj').1, List.getElem_set_ne e]
theorem row_set (bs : List Bool) (n : Nat) (b : Bool) : (bs ++ List.replicate (n + 1) false).set bs.length b = (bs ++ [b]) ++ List.replicate n false := by
 rw [List.set_append]
 simp [List.replicate_succ]
def Ook (ns : List Nd) : Prop := ∀ (i : Nat) (h : i < ns.length), ∀ y ∈ opsL ns[i], 0 ≤ y ∧ y < i
theorem row_getD (bs : List Bool) (n : Nat) (j : Nat) (h : j < bs.length) : (bs ++ List.replicate n false).getD j false = bs.getD j false := by
 simp [List.getD, List.getElem?_append_left h]
theorem any_congr (l : List Int) (f g : Int → Bool) (h : ∀ x ∈ l, f x = g x) : l.any f = l.any g := by
 induction l with
 | nil => rfl
 | cons a l ih => simp only [List.any_cons]; rw [h a (by simp), ih (fun x hx => h x (by simp [hx]))]
theorem bthenN {wr w1 w2 : World} {N : Nat} {o : Nat} {v : Value} (h : Below N wr w1) (hc : w1.cell? ⟨N, o, none⟩ = some v) (k : Below w1.heap.size w1 w2) : Below N wr w2 :=
 h.trans (k.mono (Nat.le_of_lt (World.block_lt_of_cell? _ _ hc)))
theorem any_hangs (ns : List Nd) (x : Nd) (k len : Nat) (hk : k ≤ len) (hl : len ≤ 80) (hlen : (hgs ns k).length = k) (hO : ∀ y ∈ opsL x, 0 ≤ y ∧ y < k) (B g : Nat) (wr : World)
   (hB : wr.cell? ⟨B, 0, none⟩ = some (.slice (some ⟨g, 0, none⟩) len len)) (hR : BRow wr g (hgs ns k ++ List.replicate (len - k) false))
   (w' : World) (hb : Below wr.heap.size wr w') (q : Option Addr) (qc : Nat) (hI : IntsAt w' q (opsL x)) :
   Calls Tryz.prog 18 #[.slice q (opsL x).length qc, .func (.func 134) #[] #[.pointer (some ⟨B, 0, none⟩)]] w' fun e w'' => e = .returned (.bool ((opsL x).any (fun y => (hgs ns k).getD y.toNat false))) ∧ Below w'.heap.size w' w'' := by
 have e : (opsL x).any (fun y => (hgs ns k).getD y.toNat false) = (opsL x).any (fun y => (hgs ns k ++ List.replicate (len - k) false).getD y.toNat false) := by
   apply any_congr
   intro y hy
   have := hO y hy
   rw [row_getD _ _ _ (by omega)]
 rw [e]
 have h4 := takes_four x.kind
 refine containsFunc_any 134 _ _ (opsL x) q qc w' (by rw [opsL_len]; unfold maxLen; omega) hI enter79' ?_
 intro w2 hb2 i hi
 have hy := hO (opsL x)[i] (List.getElem_mem hi)
 have hbb := bthen hb hb2
 refine (hangs1_any (opsL x)[i] B g len len (hgs ns k ++ List.replicate (len - k) false) w2 (by simp [hlen]; omega) (by unfold maxLen; omega) hy.1 (by omega) (cell_later hbb hB) (hR.later hbb)).mono ?_
 rintro e w3 ⟨rfl, rfl⟩
 exact ⟨rfl, Below.refl _ _⟩
theorem keepOther {w : World} {B o g k : Nat} {u v : Value} (hne : ¬ B = g) (h : w.cell? ⟨B, o, none⟩ = some v) : (w.setCell ⟨g, k, none⟩ u).cell? ⟨B, o, none⟩ = some v :=
 (World.cell?_setCell_other _ _ _ _ (by simp)).trans h
theorem hang_step {w wr w3 : World} {ns : List Nd} {k B : Nat} {b : Bool} (hlt : k < ns.length) (hne : ¬ B = w.heap.size) (hbw : Below w.heap.size w wr) (hb3 : Below wr.heap.size wr w3)
   (hR : BRow wr w.heap.size (hgs ns k ++ List.replicate (ns.length - k) false)) (hB : wr.cell? ⟨B, 0, none⟩ = some (.slice (some ⟨w.heap.size, 0, none⟩) ns.length ns.length)) (hAT : hgs ns (k + 1) = hgs ns k ++ [b]) :
   Below w.heap.size w (w3.setCell ⟨w.heap.size, k, none⟩ (.bool b)) ∧ Hid (BRow (w3.setCell ⟨w.heap.size, k, none⟩ (.bool b)) w.heap.size (hgs ns (k + 1) ++ List.replicate (ns.length - (k + 1)) false)) ∧ (w3.setCell ⟨w.heap.size, k, none⟩ (.bool b)).cell? ⟨B, 0, none⟩ = some (.slice (some ⟨w.heap.size, 0, none⟩) ns.length ns.length) := by
 refine ⟨(bthen hbw hb3).setCell (Nat.le_refl _) _, ?_, keepOther hne (cell_later hb3 hB)⟩
 have h := (hR.later hb3).set k b
 have e : (hgs ns k ++ List.replicate (ns.length - k) false).set k b = hgs ns (k + 1) ++ List.replicate (ns.length - (k + 1)) false := by
   have h1 := row_set (hgs ns k) (ns.length - (k + 1)) b
   rw [hgs_len, show ns.length - (k + 1) + 1 = ns.length - k from by omega] at h1
   rw [h1, hAT]
 rw [e] at h
 exact h
set_option maxRecDepth 100000 in
set_option maxHeartbeats 4000000 in
theorem hangs_any (p : Option Addr) (cap : Nat) (ns : List Nd) (hl : ns.length ≤ 80) (hO : Ook ns) (w : World) (hN : NodesAt w p ns) :
   Calls Tryz.prog 110 #[.slice p ns.length cap] w fun e w' => ∃ g, e = .returned (.slice (some ⟨g, 0, none⟩) ns.length ns.length) ∧ BRow w' g (hgs ns ns.length) ∧ Below w.heap.size w w' := by
 obtain ⟨i0, hi, hz0, hz1, hz2⟩ := info_parts info4
 have hmf : ∀ (fn : Fn) (first cap : Array Value) (w : World), (Instr.makeFunc fn first cap).run Tryz.prog w = .ok (.func fn first cap) w := fun _ _ _ _ => rfl
 have HO : Hid _ := hO
 clear hO
 go_enter Tryz.func110, Tryz.ntmps110
 go_wp2_with (at_make; refine wpList_make_full _ rfl _ _ 88 rfl w.heap.size 4 i0 (.bool false) 1 Tryz.underlying88 hi hz0 hz1 .i64 .i64 _ _ ns.length rfl rfl rfl rfl (by rw [hz2]; omega) (by unfold maxLen; omega) (Nat.le_refl _) ?_)
 intro w1 hown hgrow
 have hbA : Below w.heap.size w (w1.alloc (.cells #[.slice (some ⟨w.heap.size, 0, none⟩) ns.length ns.length] 88)) := bal ((Below.refl _ _).grown hgrow (Nat.le_refl _) (fun _ h => by cases h)) _
 have hR1 : BRow w1 w.heap.size (List.replicate ns.length false) := by
   intro j hj
   have hj' : j < ns.length := by simpa using hj
   refine ⟨?_, hown.frozenAt j⟩
   rw [hown.cellAt j (by omega)]
   simp [toList_madeCells_one, hj']
 have hR : BRow (w1.alloc (.cells #[.slice (some ⟨w.heap.size, 0, none⟩) ns.length ns.length] 88)) w.heap.size (hgs ns 0 ++ List.replicate (ns.length - 0) false) := hR1.later (bal (Below.refl _ _) _)
 have hB : (w1.alloc (.cells #[.slice (some ⟨w.heap.size, 0, none⟩) ns.length ns.length] 88)).cell? ⟨w1.heap.size, 0, none⟩ = some (.slice (some ⟨w.heap.size, 0, none⟩) ns.length ns.length) := by simp [go_sem]
 have HA : Hid _ := And.intro hbA (And.intro hR hB)
 have hgw : ¬ w1.heap.size = w.heap.size := by have := (hown.lt w.heap.size rfl).2; omega
 clear hbA hR hB hR1 hown hgrow
 go_wp2
 go_loopw [11] (fun i wr => ∃ k : Nat, k ≤ ns.length ∧ i = .int .i64 k ∧ Below w.heap.size w wr ∧ Hid (BRow wr w.heap.size (hgs ns k ++ List.replicate (ns.length - k) false)) ∧ wr.cell? ⟨w1.heap.size, 0, none⟩ = some (.slice (some ⟨w.heap.size, 0, none⟩) ns.length ns.length)) (fun i _ => ns.length - (intOf i).toNat)
 case atStart => exact ⟨0, Nat.zero_le _, rfl, HA.out.1, HA.out.2.1, HA.out.2.2⟩
 case round =>
   obtain ⟨k, hk, rfl, hbw, hR, hB⟩ := hrel
   by_cases hlt : k < ns.length
   · obtain ⟨b, off, rfl, hc⟩ := (hN.later hbw) (by omega)
     obtain ⟨c0, c1, c2, c3, c4, c5⟩ := hc k hlt
     have HAT : Hid _ := hgs_at ns k hlt
     have hops := HO.out k hlt
     have HOP : Hid _ := hops
     clear hc hops
     generalize ns[k] = nd at *
     obtain ⟨kd, v, x, y, z, n⟩ := nd
     simp only at *
     have hlen := hgs_len ns k
     have hRw := hR.out
     have hlr : (hgs ns k ++ List.replicate (ns.length - k) false).length = ns.length := by simp [hlen]; omega
     have hgk := hRw k (by omega)
     have hgk1 : wr.cell? ⟨w.heap.size, k, none⟩ = some (.bool (hgs ns k ++ List.replicate (ns.length - k) false)[k]) := hgk.1
     have hgk2 := hgk.2
     have HGK : Hid (wr.cell? ⟨w.heap.size, k, none⟩ = _) := hgk1
     generalize (hgs ns k ++ List.replicate (ns.length - k) false)[k] = old at *
     have HR : Hid _ := hRw
     have HCF : Hid (∀ (w' : World), Below wr.heap.size wr w' → ∀ (q : Option Addr) (qc : Nat), IntsAt w' q (opsL ⟨kd, v, x, y, z, n⟩) → Calls Tryz.prog 18 #[.slice q (opsL ⟨kd, v, x, y, z, n⟩).length qc, .func (.func 134) #[] #[.pointer (some ⟨w1.heap.size, 0, none⟩)]] w' fun e w'' => e = .returned (.bool ((opsL ⟨kd, v, x, y, z, n⟩).any (fun y => (hgs ns k).getD y.toNat false))) ∧ Below w'.heap.size w' w'') :=
       fun w' hb q qc hI => any_hangs ns ⟨kd, v, x, y, z, n⟩ k ns.length hk hl hlen HOP.out w1.heap.size w.heap.size wr hB hRw w' hb q qc hI
     clear hgk hRw hR hlen
     go_wp2
     have n0 : (wr.alloc (.cells #[.int .i64 kd, .int .i64 v, .int .i64 x, .int .i64 y, .int .i64 z, .int .i64 n] 93)).cell? ⟨wr.heap.size, 0, none⟩ = some (.int .i64 kd) := by simp [go_sem]
     have n1 : (wr.alloc (.cells #[.int .i64 kd, .int .i64 v, .int .i64 x, .int .i64 y, .int .i64 z, .int .i64 n] 93)).cell? ⟨wr.heap.size, 1, none⟩ = some (.int .i64 v) := by simp [go_sem]
     have n2 : (wr.alloc (.cells #[.int .i64 kd, .int .i64 v, .int .i64 x, .int .i64 y, .int .i64 z, .int .i64 n] 93)).cell? ⟨wr.heap.size, 2, none⟩ = some (.int .i64 x) := by simp [go_sem]
     have n3 : (wr.alloc (.cells #[.int .i64 kd, .int .i64 v, .int .i64 x, .int .i64 y, .int .i64 z, .int .i64 n] 93)).cell? ⟨wr.heap.size, 3, none⟩ = some (.int .i64 y) := by simp [go_sem]
     have n4 : (wr.alloc (.cells #[.int .i64 kd, .int .i64 v, .int .i64 x, .int .i64 y, .int .i64 z, .int .i64 n] 93)).cell? ⟨wr.heap.size, 4, none⟩ = some (.int .i64 z) := by simp [go_sem]
     have n5 : (wr.alloc (.cells #[.int .i64 kd, .int .i64 v, .int .i64 x, .int .i64 y, .int .i64 z, .int .i64 n] 93)).cell? ⟨wr.heap.size, 5, none⟩ = some (.int .i64 n) := by simp [go_sem]
     have hba : Below wr.heap.size wr (wr.alloc (.cells #[.int .i64 kd, .int .i64 v, .int .i64 x, .int .i64 y, .int .i64 z, .int .i64 n] 93)) := bal (Below.refl _ _) _
     have b0 := cell_later hba hB
     have g1 := cell_later hba hgk1
     have g2 := frozen_later hba hgk1 hgk2
     clear c0 c1 c2 c3 c4 c5 hgk1 hgk2
     have HB : Hid _ := hB
     clear hB
     generalize wr.alloc (.cells #[.int .i64 kd, .int .i64 v, .int .i64 x, .int .i64 y, .int .i64 z, .int .i64 n] 93) = wa at *
     have hkl : (k : Int) < (ns.length : Int) := by omega
     have hNg : ¬ wr.heap.size = w.heap.size := by have := World.block_lt_of_cell? _ _ HGK.out; simp at this; omega
     generalize hNB : wr.heap.size = NB at *
     have HNB : Hid _ := hNB
     clear hNB
     by_cases hk2 : kd = 2
     · have hkk : Hid _ := hk2
       have e2 : (kd == 2) = true := by simp [hk2]
       clear hk2
       have hfin : Hid _ := hang_step (b := true) hlt hgw hbw (show Below wr.heap.size wr wa.drew from HNB.out.symm ▸ hba.drew) HR.out HB.out (by rw [HAT.out]; simp [hkk.out])
       go_region
       all_goals
         go_wp2
         go_roundw
         case rel => exact ⟨k + 1, by omega, by go_num, hfin.out⟩
         case measure => simp [intOf]; omega
     · by_cases hk3 : kd = 3
       · have hkk : Hid _ := hk3
         have e2 : (kd == 2) = false := by simp [hk2]
         have e3 : (kd == 3) = true := by simp [hk3]
         clear hk3 hk2
         have hfin : Hid _ := hang_step (b := true) hlt hgw hbw (show Below wr.heap.size wr wa.drew from HNB.out.symm ▸ hba.drew) HR.out HB.out (by rw [HAT.out]; simp [hkk.out])
         go_region
         all_goals
           go_wp2
           go_roundw
           case rel => exact ⟨k + 1, by omega, by go_num, hfin.out⟩
           case measure => simp [intOf]; omega
       · have e2 : (kd == 2) = false := by simp [hk2]
         have e3 : (kd == 3) = false := by simp [hk3]
         go_region_held3 (fun w' => w'.cell? ⟨w1.heap.size, 0, none⟩ = some (.slice (some ⟨w.heap.size, 0, none⟩) ns.length ns.length) ∧ w'.cell? ⟨NB, 0, none⟩ = some (.int .i64 kd) ∧ w'.cell? ⟨NB, 1, none⟩ = some (.int .i64 v) ∧ w'.cell? ⟨NB, 2, none⟩ = some (.int .i64 x) ∧ w'.cell? ⟨NB, 3, none⟩ = some (.int .i64 y) ∧ w'.cell? ⟨NB, 4, none⟩ = some (.int .i64 z) ∧ w'.cell? ⟨NB, 5, none⟩ = some (.int .i64 n))
           (first | exact ⟨b0, n0, n1, n2, n3, n4, n5⟩ | exact ⟨cell_later hbc b0, cell_later hbc n0, cell_later hbc n1, cell_later hbc n2, cell_later hbc n3, cell_later hbc n4, cell_later hbc n5⟩ | (have hbe := bthen (show Below wa.drew.heap.size wa.drew _ from hbc) hbd; exact ⟨cell_later hbe b0, cell_later hbe n0, cell_later hbe n1, cell_later hbe n2, cell_later hbe n3, cell_later hbe n4, cell_later hbe n5⟩) | (have hbe := bthen (show Below wa.drew.heap.size wa.drew _ from hbc) hbd; exact ⟨keepOther hgw (cell_later hbe b0), keepOther hNg (cell_later hbe n0), keepOther hNg (cell_later hbe n1), keepOther hNg (cell_later hbe n2), keepOther hNg (cell_later hbe n3), keepOther hNg (cell_later hbe n4), keepOther hNg (cell_later hbe n5)⟩) | go_keep)
           (first | (go_at_call 123; refine (operands_any ⟨kd, v, x, y, z, n⟩ _).mono ?_; rintro e w2 ⟨q, qc, rfl, hI, hbc⟩) | (go_at_call 18; refine (HCF.out _ (bthenN (o := 0) (v := .int .i64 kd) hba.drew n0 hbc) _ _ hI).mono ?_; rintro e w3 ⟨rfl, hbd⟩; have g1b := cell_later (bthen (show Below wa.drew.heap.size wa.drew _ from hbc) hbd) g1; have g2b := frozen_later (bthen (show Below wa.drew.heap.size wa.drew _ from hbc) hbd) g1 g2))
         all_goals
           have hfin := hang_step (b := (opsL ⟨kd, v, x, y, z, n⟩).any fun y => (hgs ns k).getD y.toNat false) hlt hgw hbw (bthen (bthen (show Below wr.heap.size wr wa.drew from HNB.out.symm ▸ hba.drew) hbc) hbd) HR.out HB.out (by rw [HAT.out, e2, e3]; rfl)
           go_wp2
           first
             | exact ⟨⟨k + 1, by omega, by go_num, hfin⟩, by simp [intOf]; omega⟩
             | (go_roundw; (case rel => exact ⟨k + 1, by omega, by go_num, hfin⟩); (case measure => simp [intOf]; omega))
   · obtain rfl : k = ns.length := by omega
     go_wp2
     go_ret
     exact ⟨w.heap.size, rfl, by simpa using hR.out, hbw⟩
end Go.Proofs.YtjhkecnnhddhbaaGreatDoor.Ev
