/- Gates: checked, and an And is added. -/
import Derived.Test.YtmambfdimeeijaaGreatDoorGgM
import Derived.Deep.RegionLaw
import Derived.Deep.AppendLies
import Derived.Test.YtmambfdimeeijaaGreatDoorGcM
namespace Go.Proofs.YtmambfdimeeijaaGreatDoor
open Go.RowKit Go.Maps Go.WideMaps
set_option maxRecDepth 100000
set_option maxRecDepth 100000
set_option maxRecDepth 100000
def Checked (w w' : World) (ins : Int) (ps : List (Int × Int)) (v : Value) : Prop :=
 if chkE ins ps = 0 then ∃ M B u D, v = .pointer (some ⟨M, 0, none⟩) /\ Mk w' w.heap.size M B u ins ps /\ w'.ownsMap Tryz.prog 71 (plainElem (H := Unit) Tryz.prog 3) B ps.length D /\ MapIs ins ps ps.length D
 else v = .pointer none
set_option maxRecDepth 100000 in
set_option maxHeartbeats 4000000 in
theorem checked_any (ins : Int) (p : Option Addr) (cap : Nat) (ps : List (Int × Int)) (hwf : WfP ps) (hl : ps.length <= 8796093022208) (w : World) (hP : PairsAt w p ps) :
 Calls Tryz.prog 103 #[gval ins p ps.length cap] w fun e w' => ∃ v, e = .returned (.tuple #[v, .int .i64 (chkE ins ps)]) /\ Checked w w' ins ps v /\ Below w.heap.size w w' := by
 have HWF := hide hwf
 have hB0 : Below w.heap.size w (w.alloc (.cells #[.int .i64 ins, .slice p ps.length cap] 24)) := bal (Below.refl _ _) _
 clear hwf
 have HNO : Hid (∀ w', chkE ins ps ≠ 0 -> Checked w w' ins ps (.pointer none)) := fun w' h => by unfold Checked; rw [if_neg h]
 have HYE : Hid (∀ w', chkE ins ps = 0 -> ∀ M B u D, Mk w' w.heap.size M B u ins ps -> w'.ownsMap Tryz.prog 71 (plainElem (H := Unit) Tryz.prog 3) B ps.length D -> MapIs ins ps ps.length D -> Checked w w' ins ps (.pointer (some ⟨M, 0, none⟩))) :=
  fun w' h M B u D h1 h2 h3 => by unfold Checked; rw [if_pos h]; exact ⟨M, B, u, D, rfl, h1, h2, h3⟩
 cases hr : btw ins 0 1000
 · have HE := hide (chk_range (ps := ps) hr)
  have hr2 := btw_false.1 hr
  clear HYE hr
  by_cases hn : ins < 0
  · go_enter Tryz.func103, Tryz.ntmps103
   go_wp2
   go_ret2
   exact ⟨_, by rw [HE.out]; rfl, HNO.out _ (by rw [HE.out]; decide), hB0⟩
  · have hn2 : 1000 < ins := by omega
   clear hr2
   go_enter Tryz.func103, Tryz.ntmps103
   go_wp2
   go_ret2
   exact ⟨_, by rw [HE.out]; rfl, HNO.out _ (by rw [HE.out]; decide), hB0⟩
 have hr2 := btw_true.1 hr
 obtain ⟨hr3, hr4⟩ := hr2
 by_cases hm : 1000000 < ps.length
 · have HE := hide (chk_many hr hm)
  have hm2 : (1000000 : Int) < (ps.length : Int) := by omega
  clear HYE hr
  go_enter Tryz.func103, Tryz.ntmps103
  go_wp2
  go_ret2
  exact ⟨_, by rw [HE.out]; rfl, HNO.out _ (by rw [HE.out]; decide), hB0⟩
 have hm1 : ps.length <= 1000000 := by omega
 have HCS := hide (chk_state hr hm1)
 have HCT := hide (chk_twice hr hm1)
 have HCO := hide (chk_ok hr hm1)
 clear hr
 go_enter Tryz.func103, Tryz.ntmps103
 go_wp2
 go_loopw [23] (fun i wr => ∃ k : Nat, k <= ps.length /\ i = .int .i64 k /\ Hid (stN ins ps k = true) /\ Below w.heap.size w wr /\ wr.cell? ⟨w.heap.size, 0, none⟩ = some (.int .i64 ins) /\ wr.cell? ⟨w.heap.size, 1, none⟩ = some (.slice p ps.length cap)) (fun i _ => ps.length - (intOf i).toNat)
 case atStart => exact ⟨0, Nat.zero_le _, rfl, rfl, hB0, by simp [go_sem], by simp [go_sem]⟩
 case round =>
  obtain ⟨k, hk, rfl, hst, hbw, q0, q1⟩ := hrel
  by_cases hlt : k < ps.length
  · obtain ⟨b1, o1, rfl, hc1⟩ := (hP.later hbw) (by omega)
   obtain ⟨c0, c1⟩ := hc1 k hlt
   have hki : (k : Int) < (ps.length : Int) := by omega
   have HS := hide (stN_succ (ins := ins) hlt)
   have hwk := HWF.out k hlt
   unfold Wf at hwk
   clear hc1
   generalize ps[k] = pr at *
   obtain ⟨x, y⟩ := pr
   simp only at *
   have HBad : Hid (standB x y (1 + ins + k) = false -> chkE ins ps = 4) := by
    intro hs
    refine HCS.out ?_
    rw [Bool.eq_false_iff]
    intro hh
    have := stN_down (k := k + 1) hh (by omega)
    rw [HS.out, hs] at this
    simp at this
   have hal : Below wr.heap.size wr (wr.alloc (.cells #[.int .i64 x, .int .i64 y] 71)) := bal (Below.refl _ _) _
   have q0a := fun o => past1 q0 o
   have HCL := hide (fun w1 => stands_any x y (1 + ins + k) hwk.2.2 w1)
   cases hs : standB x y (1 + ins + k)
   · have HE := hide (HBad.out hs)
    rw [hs] at HCL
    clear HBad HS HCS HCT HCO HYE hst hs
    go_wp2_with fail
    refine (HCL.out _).mono ?_
    rintro e w1 ⟨rfl, hb1⟩
    have HB1 := hide (bthen (bthen hbw hal) hb1)
    clear hb1 hal
    go_wp2
    go_ret2
    exact ⟨_, by rw [HE.out]; rfl, HNO.out _ (by rw [HE.out]; decide), HB1.out⟩
   · have HG : Hid (stN ins ps (k + 1) = true) := by rw [HS.out, hst.out, hs]; rfl
    rw [hs] at HCL
    clear HBad HS HCS HCT HCO HYE hst hs
    go_wp2_with fail
    refine (HCL.out _).mono ?_
    rintro e w1 ⟨rfl, hb1⟩
    have HB1 := hide (bthen (bthen hbw hal) hb1)
    have q0' := cell_later (bthen hal hb1) q0
    have q1' := cell_later (bthen hal hb1) q1
    clear hb1 hal
    go_wp2
    go_roundw
    case rel => exact ⟨k + 1, by omega, by go_num, HG, HB1.out, q0', q1'⟩
    case measure => simp [intOf]; omega
  · obtain rfl : k = ps.length := by omega
   have HCT2 := hide (HCT.out hst.out)
   have HCO2 := hide (HCO.out hst.out)
   have HFR := hide (from_any ins p cap ps HWF.out hm1 hr3 hr4 wr (hP.later hbw))
   clear HCS HCT HCO hst hlt
   cases hd : dupN ps ps.length
   · have HE := hide (HCO2.out hd)
    rw [hd] at HFR
    clear HCT2 HCO2 hd HNO
    go_wp2_with fail
    refine HFR.out.mono ?_
    rintro e w1 ⟨M, B, u, D, rfl, hmk, hown, hmap, hb1⟩
    have HB1 := hide (bthen hbw hb1)
    have HR := hide (HYE.out w1 HE.out M B u D ⟨hmk.c0, hmk.c1, hmk.c2, hmk.f1, hmk.row.mono hbw.size, Nat.le_trans hbw.size hmk.hM, Nat.le_trans hbw.size hmk.hB, hmk.ne, hmk.nv, hmk.nb⟩ hown hmap)
    clear hmk hown hmap hb1
    go_wp2
    go_ret2
    exact ⟨_, by rw [HE.out]; rfl, HR.out, HB1.out⟩
   · have HE := hide (HCT2.out hd)
    rw [hd] at HFR
    clear HCT2 HCO2 hd HYE
    go_wp2_with fail
    refine HFR.out.mono ?_
    rintro e w1 ⟨M, B, u, D, rfl, hmk, hown, hmap, hb1⟩
    have HB1 := hide (bthen hbw hb1)
    clear hmk hown hmap hb1
    go_wp2
    go_ret2
    exact ⟨_, by rw [HE.out]; rfl, HNO.out _ (by rw [HE.out]; decide), HB1.out⟩
theorem check_any (ins : Int) (p : Option Addr) (cap : Nat) (ps : List (Int × Int)) (hwf : WfP ps) (hl : ps.length <= 8796093022208) (w : World) (hP : PairsAt w p ps) :
 Calls Tryz.prog 73 #[gval ins p ps.length cap] w fun e w' => e = .returned (.int .i64 (chkE ins ps)) /\ Below w.heap.size w w' := by
 have hB0 : Below w.heap.size w (w.alloc (.cells #[.int .i64 ins, .slice p ps.length cap] 24)) := bal (Below.refl _ _) _
 have HC := hide (checked_any ins p cap ps hwf hl _ (hP.later hB0))
 clear hP hwf
 generalize chkE ins ps = R at *
 go_enter Tryz.func73, Tryz.ntmps73
 go_wp2_with fail
 refine HC.out.mono ?_
 rintro e w1 ⟨v, rfl, _, hb1⟩
 have HB1 := hide (bthen hB0 hb1)
 clear hb1 hB0
 go_wp2
 go_ret
 exact ⟨rfl, HB1.out⟩
end Go.Proofs.YtmambfdimeeijaaGreatDoor

namespace Go.Proofs.YtmambfdimeeijaaGreatDoor
open Go.RowKit Go.Maps Go.WideMaps
set_option maxRecDepth 100000
set_option maxRecDepth 100000
set_option maxRecDepth 100000
theorem lit_inj {c d : Int} (h : (DataW.lit (.int .i64 c) : DataW Unit) = .lit (.int .i64 d)) : c = d := by
 injection h with h
 injection h
theorem cell_set_far {w : World} {p q : Addr} {u x : Value} (h : w.cell? q = some x) (hne : q.block ≠ p.block) : (w.setCell p u).cell? q = some x := by
 rw [World.cell?_of_block (w := w) (Below.heap_setCell w p u q.block hne)]; exact h
theorem owns_set {w : World} {base e size n : Nat} {v u : Value} {xs : List Value} {p : Addr} (h : w.ownsRow base e size v n xs) (hne : v.ownBlock ≠ some p.block) : (w.setCell p u).ownsRow base e size v n xs := by
 obtain ⟨h1, h2⟩ := h
 refine ⟨h1, ?_⟩
 rcases h2 with h2 | ⟨g, cap, cur, rfl, hg, hh, hr⟩
 · exact .inl h2
 · exact .inr ⟨g, cap, cur, rfl, hg, by rw [Below.heap_setCell w p u g (fun e => hne (by simp [Value.ownBlock, e]))]; exact hh, hr⟩
end Go.Proofs.YtmambfdimeeijaaGreatDoor

namespace Go.Proofs.YtmambfdimeeijaaGreatDoor
open Go.RowKit Go.Maps Go.WideMaps
set_option maxRecDepth 100000
set_option maxRecDepth 100000
set_option maxRecDepth 100000
end Go.Proofs.YtmambfdimeeijaaGreatDoor

namespace Go.Proofs.YtmambfdimeeijaaGreatDoor
open Go.RowKit Go.Maps Go.WideMaps
set_option maxRecDepth 100000
set_option maxRecDepth 100000
set_option maxRecDepth 100000
set_option maxRecDepth 100000
end Go.Proofs.YtmambfdimeeijaaGreatDoor

namespace Go.Proofs.YtmambfdimeeijaaGreatDoor
open Go.RowKit Go.Maps Go.WideMaps
set_option maxRecDepth 100000
set_option maxRecDepth 100000
set_option maxRecDepth 100000
set_option maxRecDepth 100000
theorem info4 : (Tryz.prog.info? 4).map (fun i => (i.zero, i.size, i.bytes)) = some (some (.bool false), 1, 1) := by kernel_rfl
end Go.Proofs.YtmambfdimeeijaaGreatDoor

namespace Go.Proofs.YtmambfdimeeijaaGreatDoor
open Go.RowKit Go.Maps Go.WideMaps
set_option maxRecDepth 100000
set_option maxRecDepth 100000
set_option maxRecDepth 100000
set_option maxRecDepth 100000
def BRow (w : World) (g : Nat) (bs : List Bool) : Prop := ∀ (j : Nat) (h : j < bs.length), w.cell? ⟨g, j, none⟩ = some (.bool bs[j]) /\ w.frozen? ⟨g, j, none⟩ = false
end Go.Proofs.YtmambfdimeeijaaGreatDoor

namespace Go.Proofs.YtmambfdimeeijaaGreatDoor
open Go.RowKit Go.Maps Go.WideMaps
set_option maxRecDepth 100000
set_option maxRecDepth 100000
set_option maxRecDepth 100000
abbrev laid (w : World) (ins : Int) (p : Option Addr) (len cap : Nat) : World := (w.alloc (.cells #[.int .i64 ins, .slice p len cap] 24)).alloc (.cells #[.int .i64 0, .slice none 0 0] 24)
end Go.Proofs.YtmambfdimeeijaaGreatDoor

namespace Go.Proofs.YtmambfdimeeijaaGreatDoor
open Go.RowKit Go.Maps Go.WideMaps
set_option maxRecDepth 100000
set_option maxRecDepth 100000
set_option maxRecDepth 100000
set_option maxRecDepth 100000
end Go.Proofs.YtmambfdimeeijaaGreatDoor

namespace Go.Proofs.YtmambfdimeeijaaGreatDoor
end Go.Proofs.YtmambfdimeeijaaGreatDoor

namespace Go.Proofs.YtmambfdimeeijaaGreatDoor
open Go.RowKit Go.Maps Go.WideMaps
set_option maxRecDepth 100000
set_option maxRecDepth 100000
set_option maxRecDepth 100000
set_option maxRecDepth 100000
end Go.Proofs.YtmambfdimeeijaaGreatDoor

namespace Go.Proofs.YtmambfdimeeijaaGreatDoor
open Go.RowKit Go.Maps Go.WideMaps
set_option maxRecDepth 100000
set_option maxRecDepth 100000
set_option maxRecDepth 100000
set_option maxRecDepth 100000
end Go.Proofs.YtmambfdimeeijaaGreatDoor

namespace Go.Proofs.YtmambfdimeeijaaGreatDoor
open Go.RowKit Go.Maps Go.WideMaps
set_option maxRecDepth 100000
set_option maxRecDepth 100000
set_option maxRecDepth 100000
set_option maxRecDepth 100000
end Go.Proofs.YtmambfdimeeijaaGreatDoor

namespace Go.Proofs.YtmambfdimeeijaaGreatDoor
open Go.RowKit Go.Maps Go.WideMaps
set_option maxRecDepth 100000
set_option maxRecDepth 100000
set_option maxRecDepth 100000
set_option maxRecDepth 100000
theorem info3 : (Tryz.prog.info? 3).map (fun i => (i.zero, i.size, i.bytes)) = some (some (.int .i64 0), 1, 8) := by kernel_rfl
theorem owns_ints {w : World} {base : Nat} {v : Value} {l : List Int} (h : w.ownsRow base 3 1 v l.length (l.map (Value.int .i64))) : ∃ p cap, v = .slice p l.length cap /\ IntsAt w p l /\ (p = none -> cap = 0) := by
 have h3 := h
 obtain ⟨h1, h2⟩ := h
 rcases h2 with ⟨rfl, h0⟩ | ⟨g, cap, cur, rfl, hg, hh, hn, hm, hs, ht⟩
 · exact ⟨none, 0, by rw [h0], fun h => by omega, fun _ => rfl⟩
 · refine ⟨_, cap, rfl, fun _ => ⟨g, 0, rfl, fun i hi => ?_⟩, fun h => by cases h⟩
  have := h3.cellAt i (by omega)
  rw [Nat.zero_add, this, List.getElem?_map, List.getElem?_eq_getElem hi]
  rfl
theorem ints_cells {w : World} {l : List Int} {ad : Addr} (h : IntsAt w (some ad) l) : ∀ j u, (l.map (Value.int .i64))[j]? = some u -> w.cell? (ad.add j) = some u := by
 intro j u hj
 obtain ⟨hjl, hju⟩ := List.getElem?_eq_some_iff.1 hj
 have hjl' : j < l.length := by simpa using hjl
 obtain ⟨b, off, h, hc⟩ := h (by omega)
 cases h
 rw [Addr.add_lit, hc j hjl', <- hju]
 simp
theorem wp_append_ints {w : World} {o : Oper} {a : Act} {K : Act -> World -> Prop} {Q : Exit -> Act -> World -> Prop} (s x : Operand)
 (ho : o.op = .call { callee := .builtin .append, args := #[s, x], argTypes := #[25, 25] })
 (base : Nat) (v : Value) (u l : List Int) (hs : a.eval s = v) (hown : w.ownsRow base 3 1 v u.length (u.map (Value.int .i64))) (p : Option Addr) (c : Nat) (hx : a.eval x = .slice p l.length c) (hB : IntsAt w p l) (hnil : p = none -> c = 0)
 (hb : u.length + l.length <= 17592186044416) (hbase : base <= w.heap.size)
 (hK : ∀ v' w', w'.ownsRow base 3 1 v' (u ++ l).length ((u ++ l).map (Value.int .i64)) -> w.grownBy w' v.ownBlock -> K (a.put o.dst v') w') : o.wp Tryz.prog a w K Q := by
 obtain ⟨i0, hi, hz0, hz1, hz2⟩ := info_parts info3
 cases p with
 | none =>
  have h0 : l = [] := by
   cases l with
   | nil => rfl
   | cons a t => obtain ⟨b, off, h, _⟩ := hB (by simp); cases h
  subst h0
  obtain rfl := hnil rfl
  have hrun := run_append_owned_none (P := Tryz.prog) (w := w) base 25 o.type 3 i0 1 Tryz.underlying25 hi v u.length _ hown
  unfold Oper.wp
  simp only [List.length_nil] at hx
  simp [execOp, ho, resolve, invoke, builtin, hs, hx, hrun, Result.andThen]
  exact hK v w (by simpa using hown) ⟨rfl, rfl, rfl, Nat.le_refl _, fun _ _ _ => rfl⟩
 | some ad =>
  refine wp_append_own w s x 25 ho base 3 i0 (.int .i64 0) 1 8 Tryz.underlying25 hi hz0 hz1 hz2 rfl (by decide) v u.length _ hs hown ad l.length c (l.map (Value.int .i64)) hx (by simp) (ints_cells hB) ?_ (by unfold maxLen; omega) (by omega) hbase (fun v' w' a b _ => hK v' w' (by simpa using a) b)
  intro u hu
  obtain ⟨x, _, rfl⟩ := List.mem_map.1 hu
  rfl
theorem wpList_append_ints {w : World} {ops : Array Oper} {rest : List Oper} {o : Oper} {a : Act} {Q : Exit -> Act -> World -> Prop} (hgd : o.guard = none) (s x : Operand)
 (ho : o.op = .call { callee := .builtin .append, args := #[s, x], argTypes := #[25, 25] })
 (base : Nat) (v : Value) (u l : List Int) (hs : a.eval s = v) (hown : w.ownsRow base 3 1 v u.length (u.map (Value.int .i64))) (p : Option Addr) (c : Nat) (hx : a.eval x = .slice p l.length c) (hB : IntsAt w p l) (hnil : p = none -> c = 0)
 (hb : u.length + l.length <= 17592186044416) (hbase : base <= w.heap.size)
 (hK : ∀ v' w', w'.ownsRow base 3 1 v' (u ++ l).length ((u ++ l).map (Value.int .i64)) -> w.grownBy w' v.ownBlock -> wpList Tryz.prog ops Q rest (a.put o.dst v') w') : wpList Tryz.prog ops Q (o :: rest) a w :=
 wpList_plain hgd fun _ hK' => wp_append_ints s x ho base v u l hs hown p c hx hB hnil hb hbase fun v' w' h1 h2 => hK' _ _ (hK v' w' h1 h2)
theorem step_append_ints {w : World} {ops : Array Oper} {o : Oper} {a : Act} {K : Act -> World -> Prop} {Q : Exit -> Act -> World -> Prop} {E : Prop} (hgd : o.guard = none) (s x : Operand)
 (ho : o.op = .call { callee := .builtin .append, args := #[s, x], argTypes := #[25, 25] })
 (base : Nat) (v : Value) (u l : List Int) (hs : a.eval s = v) (hown : w.ownsRow base 3 1 v u.length (u.map (Value.int .i64))) (p : Option Addr) (c : Nat) (hx : a.eval x = .slice p l.length c) (hB : IntsAt w p l) (hnil : p = none -> c = 0)
 (hb : u.length + l.length <= 17592186044416) (hbase : base <= w.heap.size)
 (hK : ∀ v' w', w'.ownsRow base 3 1 v' (u ++ l).length ((u ++ l).map (Value.int .i64)) -> w.grownBy w' v.ownBlock -> K (a.put o.dst v') w') :
 if Region.wanted o (yielded ops a.tmps) = true then Oper.wp Tryz.prog o a w K Q else E := by
 have hw : Region.wanted o (yielded ops a.tmps) = true := by simp [Region.wanted, hgd]
 rw [if_pos hw]
 exact wp_append_ints s x ho base v u l hs hown p c hx hB hnil hb hbase hK
theorem ints_one {w : World} (x : Int) : IntsAt (w.alloc (.cells #[.int .i64 x] 3)) (some ⟨w.heap.size, 0, none⟩) [x] := fun _ => ⟨w.heap.size, 0, rfl, fun i hi => by
 match i, hi with
 | 0, _ => simp [go_sem]⟩
def upto (k : Nat) : List Int := (List.range k).map (fun i : Nat => (i : Int))
end Go.Proofs.YtmambfdimeeijaaGreatDoor

namespace Go.Proofs.YtmambfdimeeijaaGreatDoor
open Go.RowKit Go.Maps Go.WideMaps
set_option maxRecDepth 100000
set_option maxRecDepth 100000
set_option maxRecDepth 100000
set_option maxRecDepth 100000
def numL (x : Int) : Int := if odd x = true then -(x / 2) else x / 2
def andC (n a b : Int) : List (List Int) := [[-n, numL a], [-n, numL b], [n, -numL a, -numL b]]
def rootC (x : Int) : List (List Int) := if x = 1 then [] else if x = 0 then [[]] else [[numL x]]
def andsC (ins : Int) (ps : List (Int × Int)) : Nat -> List (List Int)
 | 0 => []
 | k + 1 => andsC ins ps k ++ (match ps[k]? with | some p => andC (1 + ins + k) p.1 p.2 | none => [])
theorem andsC_succ {ins : Int} {ps : List (Int × Int)} {k : Nat} (h : k < ps.length) : andsC ins ps (k + 1) = andsC ins ps k ++ andC (1 + ins + k) ps[k].1 ps[k].2 := by
 simp [andsC, List.getElem?_eq_getElem h]
theorem stand_two {a b n : Int} (h : standB a b n = true) : 2 <= a /\ a < 2 * n /\ 2 <= b /\ b < 2 * n := by
 simp [standB] at h
 omega
end Go.Proofs.YtmambfdimeeijaaGreatDoor

namespace Go.Proofs.YtmambfdimeeijaaGreatDoor
open Go.RowKit Go.Maps Go.WideMaps
set_option maxRecDepth 100000
set_option maxRecDepth 100000
set_option maxRecDepth 100000
structure Row where
 at' : Option Addr
 ns : List Int
 cap : Nat
def Row.v (r : Row) : Value := .slice r.at' r.ns.length r.cap
def RowsAt (w : World) (p : Option Addr) (l : List Row) : Prop := 0 < l.length -> ∃ b off, p = some ⟨b, off, none⟩ /\ ∀ i (hi : i < l.length), w.cell? ⟨b, off + i, none⟩ = some l[i].v
theorem RowsAt.later {w w' : World} {p : Option Addr} {l : List Row} (h : RowsAt w p l) (hb : Below w.heap.size w w') : RowsAt w' p l := fun h0 => by
 obtain ⟨b, off, h1, h2⟩ := h h0
 exact ⟨b, off, h1, fun i hi => cell_later hb (h2 i hi)⟩
def InAt (w : World) (l : List Row) : Prop := ∀ r ∈ l, IntsAt w r.at' r.ns
theorem InAt.later {w w' : World} {l : List Row} (h : InAt w l) (hb : Below w.heap.size w w') : InAt w' l := fun r hr => (h r hr).later hb
theorem IntsAt.grownBy {w w1 : World} {row : Option Nat} {p : Option Addr} {l : List Int} (h : IntsAt w p l) (hg : w.grownBy w1 row) (hne : ∀ a, p = some a -> some a.block ≠ row) : IntsAt w1 p l := by
 intro h0
 obtain ⟨b, off, e, hc⟩ := h h0
 exact ⟨b, off, e, fun i hi => hg.cell (hc i hi) (hne ⟨b, off, none⟩ e)⟩
theorem IntsAt.set {w : World} {p : Option Addr} {l : List Int} (h : IntsAt w p l) (q : Addr) (u : Value) (hne : ∀ a, p = some a -> a.block ≠ q.block) : IntsAt (w.setCell q u) p l := by
 intro h0
 obtain ⟨b, off, e, hc⟩ := h h0
 exact ⟨b, off, e, fun i hi => cell_set_far (hc i hi) (hne ⟨b, off, none⟩ e)⟩
theorem number_any (x : Int) (h : 0 <= x) (h2 : x <= 10000000) (w : World) :
 Calls Tryz.prog 55 #[.int .i64 x] w fun e w' => e = .returned (.int .i64 (numL x)) /\ w' = w := by
 have HE : Hid (numL x = if odd x = true then -(x / 2) else x / 2) := rfl
 generalize numL x = R at *
 cases ho : odd x
 · have HR : Hid (R = x / 2) := by rw [HE.out, ho]; rfl
  have HT := hide (isTurned_any x h (by omega) w)
  rw [ho] at HT
  clear HE ho
  go_enter Tryz.func55, Tryz.ntmps55
  go_wp2_with (first | (go_at_call 83; refine HT.out.mono ?_; rintro e w' ⟨rfl, rfl⟩) | (go_at_call 80; refine (node_any _ (by omega) (by omega) _).mono ?_; rintro e w' ⟨rfl, rfl⟩))
  go_ret
  exact ⟨ret_int HR.out.symm, rfl⟩
 · have HR : Hid (R = -(x / 2)) := by rw [HE.out, ho]; rfl
  have HT := hide (isTurned_any x h (by omega) w)
  rw [ho] at HT
  clear HE ho
  go_enter Tryz.func55, Tryz.ntmps55
  go_wp2_with (first | (go_at_call 83; refine HT.out.mono ?_; rintro e w' ⟨rfl, rfl⟩) | (go_at_call 80; refine (node_any _ (by omega) (by omega) _).mono ?_; rintro e w' ⟨rfl, rfl⟩))
  go_ret
  exact ⟨ret_int HR.out.symm, rfl⟩
set_option maxHeartbeats 1000000 in
theorem cloneI_any (p : Option Addr) (cap : Nat) (l : List Int) (hl : l.length <= 100000000) (w : World) (hP : IntsAt w p l) :
 Calls Tryz.prog 84 #[.slice p l.length cap] w fun e w' => ∃ v, e = .returned v /\ w'.ownsRow w.heap.size 3 1 v l.length (l.map (Value.int .i64)) /\ Below w.heap.size w w' := by
 obtain ⟨i0, hi, hz0, hz1, hz2⟩ := info_parts info3
 have q36 : ∀ (w : World) (a : Option Addr) (n c n' c' : Nat), (binOp .eql 25 (.slice a n c) (.slice none n' c')).run Tryz.prog w = .ok (.bool a.isNone) w := fun w a n c n' c' => Lib.run_eql_slice_nil w _ _ a n c n' c' Tryz.underlying25
 cases p with
 | none =>
  have h0 : l = [] := by
   cases l with
   | nil => rfl
   | cons a t => obtain ⟨b, off, h, _⟩ := hP (by simp); cases h
  subst h0
  go_enter Tryz.func84, Tryz.ntmps84
  go_wp2
  go_ret
  exact ⟨_, rfl, World.ownsRow_nil _ _ _ _, Below.refl _ _⟩
 | some ad =>
  have HC := hide (ints_cells hP)
  clear hP
  go_enter Tryz.func84, Tryz.ntmps84
  go_wp2_with (at_builtin; refine wpList_append_own _ rfl _ _ 25 rfl w.heap.size 3 i0 (.int .i64 0) 1 8 Tryz.underlying25 hi hz0 hz1 hz2 rfl (by decide) _ _ _ rfl (World.ownsRow_made w #[] 0 (Nat.le_refl _) (Nat.zero_le _) rfl) ad l.length cap (l.map (Value.int .i64)) rfl ?qc1 ?qc2 ?qc3 ?qc4 ?qc5 ?qc6 ?_)
  case qc1 => simp
  case qc2 => intro j u hj; exact Lib.cell?_alloc_some _ (HC.out j u hj)
  case qc3 => intro u hu; obtain ⟨x, _, rfl⟩ := List.mem_map.1 hu; rfl
  case qc4 => unfold maxLen; omega
  case qc5 => omega
  case qc6 => simp
  intro v' w1 hown hgrow _
  go_wp2
  go_ret
  exact ⟨v', rfl, by simpa using hown, ((Below.refl _ w).alloc (Nat.le_refl _) _).grown hgrow (by simp) (by intro k hk; simp [Value.ownBlock] at hk; omega)⟩
theorem infoR : (Tryz.prog.info? 25).map (fun i => (i.zero, i.size, i.bytes)) = some (some (.slice none 0 0), 1, 24) := by kernel_rfl
structure Cm (w : World) (base M : Nat) (v : Value) (vars : Int) (rs : List Row) : Prop where
 c0 : w.cell? ⟨M, 0, none⟩ = some (.int .i64 vars)
 c1 : w.cell? ⟨M, 1, none⟩ = some v
 f0 : w.frozen? ⟨M, 0, none⟩ = false
 f1 : w.frozen? ⟨M, 1, none⟩ = false
 row : w.ownsRow base 25 1 v rs.length (rs.map Row.v)
 inn : InAt w rs
 hM : base <= M
 nv : v.ownBlock ≠ some M
 far : ∀ r ∈ rs, ∀ a, r.at' = some a -> a.block ≠ M /\ v.ownBlock ≠ some a.block /\ a.block < w.heap.size /\ base <= a.block
theorem Cm.below {w w1 : World} {base M : Nat} {v : Value} {vars : Int} {rs : List Row} (h : Cm w base M v vars rs) (hb : Below w.heap.size w w1) : Cm w1 base M v vars rs :=
 ⟨cell_later hb h.c0, cell_later hb h.c1, by rw [hb.frozen (World.block_lt_of_cell? _ _ h.c0)]; exact h.f0, by rw [hb.frozen (World.block_lt_of_cell? _ _ h.c1)]; exact h.f1, owns_below h.row hb, h.inn.later hb, h.hM, h.nv, fun r hr a ha => ⟨(h.far r hr a ha).1, (h.far r hr a ha).2.1, Nat.lt_of_lt_of_le (h.far r hr a ha).2.2.1 hb.size, (h.far r hr a ha).2.2.2⟩⟩
theorem owns_rows {w : World} {base : Nat} {v : Value} {rs : List Row} (h : w.ownsRow base 25 1 v rs.length (rs.map Row.v)) : ∃ p cap, v = .slice p rs.length cap /\ RowsAt w p rs := by
 have h' := h
 obtain ⟨h1, h2⟩ := h
 rcases h2 with ⟨rfl, h0⟩ | ⟨g, cap, cur, rfl, hg, hh, hn, hm, hs, ht⟩
 · exact ⟨none, 0, by rw [h0], fun h => by omega⟩
 · refine ⟨_, cap, rfl, fun _ => ⟨g, 0, rfl, fun i hi => ?_⟩⟩
  rw [Nat.zero_add, h'.cellAt i (by omega), List.getElem?_map, List.getElem?_eq_getElem hi]
  rfl
structure Kp (M : Nat) (w : World) (v : Value) (w' : World) (v' : Value) : Prop where
 sz : w.heap.size <= w'.heap.size
 keep : ∀ (q : Addr) (x : Value), w.cell? q = some x -> q ≠ ⟨M, 0, none⟩ -> q ≠ ⟨M, 1, none⟩ -> v.ownBlock ≠ some q.block -> w'.cell? q = some x /\ v'.ownBlock ≠ some q.block
 blk : ∀ g, g < w.heap.size -> g ≠ M -> v.ownBlock ≠ some g -> w'.heap[g]? = w.heap[g]? /\ v'.ownBlock ≠ some g
theorem Kp.refl (M : Nat) (w : World) (v : Value) : Kp M w v w v := ⟨Nat.le_refl _, fun _ _ h _ _ h2 => ⟨h, h2⟩, fun _ _ _ h => ⟨rfl, h⟩⟩
theorem Kp.trans {M : Nat} {w w1 w2 : World} {v v1 v2 : Value} (h : Kp M w v w1 v1) (h' : Kp M w1 v1 w2 v2) : Kp M w v w2 v2 :=
 ⟨Nat.le_trans h.sz h'.sz, fun q x hq h0 h1 h2 => h'.keep q x (h.keep q x hq h0 h1 h2).1 h0 h1 (h.keep q x hq h0 h1 h2).2,
  fun g hg hm hv => ⟨(h'.blk g (Nat.lt_of_lt_of_le hg h.sz) hm (h.blk g hg hm hv).2).1.trans (h.blk g hg hm hv).1, (h'.blk g (Nat.lt_of_lt_of_le hg h.sz) hm (h.blk g hg hm hv).2).2⟩⟩
theorem Kp.later {M : Nat} {w w1 : World} {v : Value} (hb : Below w.heap.size w w1) : Kp M w v w1 v := ⟨hb.size, fun _ _ hq _ _ h2 => ⟨cell_later hb hq, h2⟩, fun g hg _ hv => ⟨hb.block g hg, hv⟩⟩
theorem add_memC {w1 w2 : World} {base M g cap : Nat} {v : Value} {vars : Int} {rs : List Row} {r : Row} {o : Obj} (hbs : base <= w1.heap.size)
 (hmk : Cm w1 base M v vars rs) (hr : IntsAt w1 r.at' r.ns) (hrf : ∀ a, r.at' = some a -> a.block ≠ M /\ v.ownBlock ≠ some a.block /\ a.block < w1.heap.size /\ base <= a.block)
 (hg : (w1.alloc o).grownBy w2 v.ownBlock)
 (hrow : w2.ownsRow base 25 1 (.slice (some ⟨g, 0, none⟩) (rs.length + 1) cap) (rs.length + 1) (rs.map Row.v ++ [r.v])) (hat : v.ownBlock = some g \/ g = w1.heap.size + 1) :
 Cm (w2.setCell ⟨M, 1, none⟩ (.slice (some ⟨g, 0, none⟩) (rs.length + 1) cap)) base M (.slice (some ⟨g, 0, none⟩) (rs.length + 1) cap) vars (rs ++ [r]) /\
 (∀ w0, Below base w0 w1 -> Below base w0 (w2.setCell ⟨M, 1, none⟩ (.slice (some ⟨g, 0, none⟩) (rs.length + 1) cap))) /\
 Kp M w1 v (w2.setCell ⟨M, 1, none⟩ (.slice (some ⟨g, 0, none⟩) (rs.length + 1) cap)) (.slice (some ⟨g, 0, none⟩) (rs.length + 1) cap) := by
 have hM := World.block_lt_of_cell? _ _ hmk.c1
 simp only at hM
 have hgM : g ≠ M := by
  rcases hat with h | h
  · intro e; exact hmk.nv (by rw [h, e])
  · omega
 have k0 := hg.cell (past1 hmk.c0 o) (fun e => hmk.nv e.symm)
 have k1 := hg.cell (past1 hmk.c1 o) (fun e => hmk.nv e.symm)
 have hb : Below w1.heap.size w1 (w1.alloc o) := bal (Below.refl _ _) o
 have kf : ∀ j x, w1.cell? ⟨M, j, none⟩ = some x -> w1.frozen? ⟨M, j, none⟩ = false -> w2.frozen? ⟨M, j, none⟩ = false := fun j x h1 h2 => by
  rw [grown_frozen hg (past1 h1 o) (fun e => hmk.nv e.symm), hb.frozen hM]
  exact h2
 have hIn : ∀ q : Row, IntsAt w1 q.at' q.ns -> (∀ a, q.at' = some a -> a.block ≠ M /\ v.ownBlock ≠ some a.block) -> IntsAt (w2.setCell ⟨M, 1, none⟩ (.slice (some ⟨g, 0, none⟩) (rs.length + 1) cap)) q.at' q.ns := fun q h1 h2 =>
  ((h1.later hb).grownBy hg (fun a ha e => (h2 a ha).2 e.symm)).set _ _ (fun a ha => (h2 a ha).1)
 have hsz2 : w1.heap.size <= w2.heap.size := by have := hg.size; simp at this; omega
 have hFar : ∀ q : Row, (∀ a, q.at' = some a -> a.block ≠ M /\ v.ownBlock ≠ some a.block /\ a.block < w1.heap.size /\ base <= a.block) -> ∀ a, q.at' = some a -> a.block ≠ M /\ Value.ownBlock (.slice (some ⟨g, 0, none⟩) (rs.length + 1) cap) ≠ some a.block /\ a.block < w2.heap.size /\ base <= a.block := fun q h a ha => by
  obtain ⟨h1, h2, h3, h5⟩ := h a ha
  refine ⟨h1, ?_, by omega, h5⟩
  intro e
  have e' : g = a.block := by simpa [Value.ownBlock] using e
  rcases hat with h4 | h4
  · exact h2 (by rw [h4, e'])
  · omega
 refine ⟨⟨?_, ?_, ?_, ?_, ?_, ?_, hmk.hM, ?_, ?_⟩, ?_, ?_⟩
 · rw [World.cell?_setCell_other w2 _ _ _ (by simp)]; exact k0
 · exact World.cell?_setCell_same w2 _ _ k1
 · rw [World.frozen?_setCell]; exact kf _ _ hmk.c0 hmk.f0
 · rw [World.frozen?_setCell]; exact kf _ _ hmk.c1 hmk.f1
 · rw [List.length_append, List.map_append]
  exact owns_set hrow (by simpa [Value.ownBlock] using hgM)
 · intro q hq
  rcases List.mem_append.1 hq with h | h
  · exact hIn q (hmk.inn q h) (fun a ha => ⟨(hmk.far q h a ha).1, (hmk.far q h a ha).2.1⟩)
  · obtain rfl : q = r := by simpa using h
   exact hIn q hr (fun a ha => ⟨(hrf a ha).1, (hrf a ha).2.1⟩)
 · simpa [Value.ownBlock] using hgM
 · intro q hq
  have hs : ∀ u, (w2.setCell ⟨M, 1, none⟩ u).heap.size = w2.heap.size := fun u => by simp
  rcases List.mem_append.1 hq with h | h
  · intro a ha; rw [hs]; exact hFar q (hmk.far q h) a ha
  · obtain rfl : q = r := by simpa using h
   intro a ha; rw [hs]; exact hFar q hrf a ha
 · intro w0 hb
  refine Below.setCell ((hb.alloc hbs o).grown hg (by simp; omega) (fun k hk => (hmk.row.lt k hk).1)) hmk.hM _
 · refine ⟨by simp; omega, fun q x hq _ h1 h2 => ⟨?_, fun e => ?_⟩, fun k hk h1 h2 => ⟨?_, fun e => ?_⟩⟩
  · rw [World.cell?_setCell_other w2 _ _ _ (fun e => h1 e.symm)]
   exact hg.cell (past1 hq o) (fun e => h2 e.symm)
  · have e' : g = q.block := by simpa [Value.ownBlock] using e
   have hlt := World.block_lt_of_cell? _ _ hq
   rcases hat with h | h
   · exact h2 (by rw [h, e'])
   · omega
  · rw [Below.heap_setCell _ _ _ _ h1, hg.block k (by simp; omega) (fun e => h2 e.symm)]
   exact hb.block k hk
  · have e' : g = k := by simpa [Value.ownBlock] using e
   rcases hat with h | h
   · exact h2 (by rw [h, e'])
   · omega
theorem one_news (r : Row) (w : World) : ∀ j u, ([r.v] : List Value)[j]? = some u -> (w.alloc (.cells #[r.v] 25)).cell? ((⟨w.heap.size, 0, none⟩ : Addr).add j) = some u := fun j u hj => by
 match j, hj with
 | 0, hj => simp at hj; subst hj; simp [go_sem, Addr.add]
theorem one_cell (r : Row) : ∀ u ∈ ([r.v] : List Value), u.oneCell' = true := fun u hu => by
 simp at hu; subst hu; rfl
set_option maxRecDepth 100000 in
set_option maxHeartbeats 4000000 in
theorem addC_any (base M : Nat) (v : Value) (vars : Int) (rs : List Row) (hrs : rs.length <= 4000000) (l : List Int) (hl : l.length <= 100000000) (q : Option Addr) (qc : Nat) (w : World) (hbs : base <= w.heap.size) (hmk : Cm w base M v vars rs) (hI : IntsAt w q l) :
 Calls Tryz.prog 56 #[.pointer (some ⟨M, 0, none⟩), .slice q l.length qc] w fun e w' => e = .returned (.tuple #[]) /\ ∃ v' r, r.ns = l /\ Cm w' base M v' vars (rs ++ [r]) /\ Below base w w' /\ Kp M w v w' v' := by
 have HCL : Hid (∀ w1, Below w.heap.size w w1 -> Calls Tryz.prog 84 #[.slice q l.length qc] w1 fun e w' => ∃ (pr : Option Addr) (cr : Nat), e = .returned (.slice pr l.length cr) /\ IntsAt w' pr l /\ (∀ a, pr = some a -> w1.heap.size <= a.block /\ a.block < w'.heap.size) /\ Below w1.heap.size w1 w') :=
  fun w1 hb => (cloneI_any q qc l (by omega) w1 (hI.later hb)).mono fun e w' ⟨u, he, ho, hb⟩ => by
   have hlt := ho.lt
   obtain ⟨pv, cv, rfl, h1, _⟩ := owns_ints ho
   refine ⟨pv, cv, he, h1, fun a ha => ?_, hb⟩
   cases ha
   have := hlt a.block (by simp [Value.ownBlock])
   exact this
 obtain ⟨i0, hi, hz0, hz1, hz2⟩ := info_parts infoR
 obtain ⟨pv, cv, rfl, _⟩ := owns_rows hmk.row
 have m1 := hmk.c1
 have f1 := hmk.f1
 have HMK := hide hmk
 have HIN := hide (And.intro hi (And.intro hz0 (And.intro hz1 hz2)))
 have hlt0 := World.block_lt_of_cell? _ _ hmk.c1
 simp only at hlt0
 clear hI hmk hi hz0 hz1 hz2
 go_enter Tryz.func56, Tryz.ntmps56
 go_wp2
 go_region_law (first
  | (go_simp; go_at_call 84; refine (HCL.out _ (Below.refl _ _).drew).mono ?_; rintro e w1 ⟨pr, cr, rfl, hri, hrb, hb1⟩; have hmk1 := HMK.out.below (show Below w.heap.size w w1 from (Below.refl _ w).drew.trans hb1); have m1' := hmk1.c1; have f1' := hmk1.f1; have HMK1 := hide hmk1; have hM1 := World.block_lt_of_cell? _ _ m1'; simp only at hM1; have hM2 := World.new_ne w1 ⟨M, 1, none⟩ m1'; simp only at hM2; clear hmk1)
  | (refine step_append_lies _ rfl (.tmp 9) (.tmp 12) 28 rfl base 25 i0 (.slice none 0 0) 1 24 Tryz.underlying28 HIN.out.1 HIN.out.2.1 HIN.out.2.2.1 HIN.out.2.2.2 rfl (by decide) _ rs.length (rs.map Row.v) (by simp [Act.eval]) (HMK1.out.row.alloc _) ⟨w1.heap.size, 0, none⟩ 1 1 [(Row.mk pr l cr).v] (by simp [Act.eval]) rfl (one_news ⟨pr, l, cr⟩ w1) (one_cell ⟨pr, l, cr⟩) (by decide) (by unfold maxLen; omega) (by omega) (by simp; have := hb1.size; simp at this; omega) (w1.heap.size + 1) (by simp) ?_
     intro g cap w2 hown2 hg2 hat2 hlt2
     have g1 := hg2.cell (a := ⟨M, 1, none⟩) (past1 m1' _) (fun e => HMK1.out.nv e.symm)
     have f2 : w2.frozen? ⟨M, 1, none⟩ = false := (grown_frozen hg2 (past1 m1' _) (fun e => HMK1.out.nv e.symm)).trans (((bal (Below.refl _ _) _).frozen (World.block_lt_of_cell? _ _ m1')).trans f1')))
 all_goals
  have hmem := add_memC (r := ⟨pr, l, cr⟩) (by have := hb1.size; simp at this; omega) HMK1.out hri (fun a ha => by
   have h1 := hrb a ha
   simp at h1
   refine ⟨by omega, fun e => ?_, h1.2, by omega⟩
   have := (HMK.out.row.lt _ e).2
   omega) hg2 hown2 hat2
  have HMM := hide hmem
  have HB0 : Hid (Below w.heap.size w w1) := (Below.refl _ w).drew.trans (show Below w.heap.size w.drew w1 from hb1)
  have HB : Hid (Below base w w1) := HB0.out.mono hbs
  clear hmem
  go_end0
  exact ⟨rfl, _, _, rfl, HMM.out.1, HMM.out.2.1 _ HB.out, (Kp.later HB0.out).trans HMM.out.2.2⟩
end Go.Proofs.YtmambfdimeeijaaGreatDoor
