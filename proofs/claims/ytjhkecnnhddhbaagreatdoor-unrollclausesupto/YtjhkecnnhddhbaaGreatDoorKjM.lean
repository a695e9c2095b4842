/- Steps, unrolled: what is bad at the last step. -/
import Derived.Test.YtjhkecnnhddhbaaGreatDoorKgM
import Derived.Deep.RegionLaw
namespace Go.Proofs.YtjhkecnnhddhbaaGreatDoor
open Go.RowKit Go.Maps Go.WideMaps
set_option maxRecDepth 100000
set_option maxHeartbeats 2000000 in
theorem index_any (x : Int) (l : List Int) (q : Option Addr) (qc : Nat) (hl : l.length ≤ 17592186044416) (w : World) (hI : IntsAt w q l) :
   Calls Tryz.prog 69 #[.slice q l.length qc, .int .i64 x] w fun e w' => (∃ i : Int, e = .returned (.int .i64 i) ∧ (0 ≤ i ↔ x ∈ l)) ∧ w' = w := by
 have HI := hide hI
 clear hI
 go_enter Tryz.func69, Tryz.ntmps69
 go_wp2
 go_loopw [8] (fun i wr => ∃ k : Nat, k ≤ l.length ∧ i = .int .i64 k ∧ Hid (x ∉ l.take k) ∧ wr = w) (fun i _ => l.length - (intOf i).toNat)
 case atStart => exact ⟨0, Nat.zero_le _, rfl, by simp [Hid], rfl⟩
 case round =>
   obtain ⟨k, hk, rfl, HN, hwr⟩ := hrel
   obtain rfl : w = wr := hwr.symm
   by_cases hlt : k < l.length
   · obtain ⟨b, off, rfl, hcs⟩ := HI.out (by omega)
     have c0 := hcs k hlt
     have hki : (k : Int) < (l.length : Int) := by omega
     have HM : Hid (l[k] ∈ l) := List.getElem_mem hlt
     have HS : Hid (l.take (k + 1) = l.take k ++ [l[k]]) := List.take_succ_eq_append_getElem hlt
     clear hcs
     generalize l[k] = y at *
     by_cases hy : x = y
     · subst hy
       have HE := hide (show ∃ i : Int, Ending.returned (.int .i64 (k : Int)) = .returned (.int .i64 i) ∧ (0 ≤ i ↔ x ∈ l) from ⟨k, rfl, ⟨fun _ => HM.out, fun _ => by omega⟩⟩)
       clear HN HM HS
       go_wp2
       go_ret
       exact ⟨HE.out, rfl⟩
     · have hyb : (x == y) = false := by simpa using hy
       have HN2 : Hid (x ∉ l.take (k + 1)) := by
         unfold Hid
         rw [HS.out]
         intro h
         rcases List.mem_append.1 h with h | h
         · exact HN.out h
         · exact hy (by simpa using h)
       clear HN HM HS hy
       go_wp2
       go_roundw
       case rel => exact ⟨k + 1, by omega, by go_num, HN2, trivial⟩
       case measure => simp [intOf]; omega
   · obtain rfl : k = l.length := by omega
     have HE := hide (show ∃ i : Int, Ending.returned (.int .i64 (-1)) = .returned (.int .i64 i) ∧ (0 ≤ i ↔ x ∈ l) from ⟨-1, rfl, ⟨fun h => by omega, fun h => absurd (by rw [List.take_length]; exact h) HN.out⟩⟩)
     clear HN
     go_wp2
     go_ret
     exact ⟨HE.out, rfl⟩
theorem containsI_any (x : Int) (l : List Int) (q : Option Addr) (qc : Nat) (hl : l.length ≤ 17592186044416) (w : World) (hI : IntsAt w q l) :
   Calls Tryz.prog 45 #[.slice q l.length qc, .int .i64 x] w fun e w' => e = .returned (.bool (decide (x ∈ l))) ∧ w' = w := by
 have HX := hide (index_any x l q qc hl w hI)
 clear hI
 go_enter Tryz.func45, Tryz.ntmps45
 go_wp2_with fail
 refine HX.out.mono ?_
 rintro e w1 ⟨⟨i, rfl, hi⟩, hw⟩
 obtain rfl : w = w1 := hw.symm
 have HD : Hid (decide (0 ≤ i) = decide (x ∈ l)) := by unfold Hid; simp only [hi]
 clear hw HX hi
 go_wp2
 go_ret
 exact ⟨ret_bool HD.out, rfl⟩
def badN (C : Ci) (t k : Nat) : List Int := ((C.b.ns.take k).filter (fun x => x != 0)).map fun x => numL (atL C.f t x)
theorem badN_succ (C : Ci) (t k : Nat) (h : k < C.b.ns.length) : badN C t (k + 1) = if C.b.ns.getD k 0 = 0 then badN C t k else badN C t k ++ [numL (atL C.f t (C.b.ns.getD k 0))] := by
 have e : C.b.ns.getD k 0 = C.b.ns[k] := by simp [List.getD, List.getElem?_eq_getElem h]
 unfold badN
 rw [List.take_succ_eq_append_getElem h, e]
 by_cases hz : C.b.ns[k] = 0
 · rw [if_pos hz, List.filter_append, hz]; simp
 · rw [if_neg hz, List.filter_append]; simp [hz]
theorem badN_len (C : Ci) (t k : Nat) : (badN C t k).length ≤ k := by
 unfold badN
 rw [List.length_map]
 exact Nat.le_trans (List.length_filter_le _ _) (by rw [List.length_take]; omega)
set_option maxHeartbeats 8000000 in
theorem badMake_any (w0 : World) (M : Nat) (C : Ci) (last : Nat) (hC : COk w0 C last) (U : Nat) (w : World) (v : Value) (vars : Int) (rs : List Row)
   (hU : Un w0 w M v vars rs C last) (hB : Bxs w v M [(⟨U, 0, none⟩, .pointer (some ⟨M, 0, none⟩))]) (hl : rs.length + 1 ≤ 800000) :
   Calls Tryz.prog 47 #[.pointer (some ⟨U, 0, none⟩)] w (MkOut w0 w M v (vars + 0) rs [badN C last C.b.ns.length] C last) := by
 have ht1 := hC.tf (Nat.le_refl last)
 have hpl := hC.pl
 have hbl := hC.bl
 have hi1 := hC.i1
 have hi0 := hC.i0
 have hla := hC.la
 have HC := hide hC
 have HU := hide hU
 have HB := hide hB
 have b0 := (hB _ _ (.head _)).1
 have u8 := hU.un.u8
 simp only [Sl.v] at u8
 obtain ⟨pp, HPP⟩ : ∃ pp, Hid (C.b.at' = pp) := ⟨_, rfl⟩
 rw [HPP.out] at u8
 have HSU : Hid (∀ k, k < C.b.ns.length → badN C last (k + 1) = if C.b.ns.getD k 0 = 0 then badN C last k else badN C last k ++ [numL (atL C.f last (C.b.ns.getD k 0))]) := fun k h => badN_succ C last k h
 clear hC hU hB
 go_enter Tryz.func47, Tryz.ntmps47
 go_wp2
 go_loopw [1, 10] (fun u i wr => ∃ k : Nat, k ≤ C.b.ns.length ∧ i = .int .i64 k ∧ Hid (wr.ownsRow w.heap.size 3 1 u (badN C last k).length ((badN C last k).map (Value.int .i64))) ∧ Hid (Below w.heap.size w wr)) (fun _ i _ => C.b.ns.length - (intOf i).toNat)
 case atStart => exact ⟨0, Nat.zero_le _, rfl, World.ownsRow_nil _ _ _ _, Below.refl _ _⟩
 case round =>
   obtain ⟨k, hk, rfl, HO, HBW⟩ := hrel
   have hUr := HU.out.later HBW.out
   have hBr := HB.out.later HBW.out
   have b1 := (hBr _ _ (.head _)).1
   have hsz := HBW.out.size
   by_cases hlt : k < C.b.ns.length
   · have hki : (k : Int) < (C.b.ns.length : Int) := by omega
     have hbn := HC.out.nb _ (getD_mem' hlt)
     obtain ⟨gb, goff, hge, hgc⟩ := (HC.out.at'.b.later hUr.bl) (by omega)
     have gk := hgc k hlt
     obtain rfl : pp = some ⟨gb, goff, none⟩ := HPP.out.symm.trans hge
     clear hge hgc
     rw [show C.b.ns[k] = C.b.ns.getD k 0 by simp [List.getD, List.getElem?_eq_getElem hlt]] at gk
     have HSK := hide (HSU.out k hlt)
     have hbl2 := badN_len C last k
     have hat := atL_bd (x := C.b.ns.getD k 0) ht1.1 ht1.2 hbn.1 hbn.2
     have HAT := hide (fun w' (hb : Below wr.heap.size wr w') => at_any M C last last (C.b.ns.getD k 0) hi0 hi1 (by omega) hbn.1 (by omega) ht1.1 (by omega) w' (hUr.un.later hb))
     generalize C.b.ns.getD k 0 = z at *
     by_cases hz : z = 0
     · have HS2 : Hid (badN C last (k + 1) = badN C last k) := by unfold Hid; rw [HSK.out, if_pos hz]
       rw [← HS2.out] at HO
       subst hz
       clear HSK HAT hbn hat hUr hBr
       go_wp2
       go_roundw
       case rel => exact ⟨k + 1, by omega, by go_num, HO, HBW⟩
       case measure => simp [intOf]; omega
     · have HS2 : Hid (badN C last (k + 1) = badN C last k ++ [numL (atL C.f last z)]) := by unfold Hid; rw [HSK.out, if_neg hz]
       have hzb : (z != 0) = true := by simpa using hz
       have HNU := hide (fun w' => number_any (atL C.f last z) hat.1 (by omega) w')
       have u10 := hUr.un.u10
       generalize atL C.f last z = y at *
       generalize numL y = m at *
       have hbd : Below wr.heap.size wr wr.drew := (Below.refl _ wr).drew
       obtain ⟨pu, cu, rfl, _⟩ := owns_ints HO.out
       clear HSK hbn hat hUr hBr hz
       go_wp2
       go_region_law (first
         | (go_simp; go_at_call 38; refine (HAT.out _ hbd).mono ?_; rintro e wB ⟨rfl, hb⟩; have hbB := bthen hbd hb)
         | (go_simp; go_at_call 48; refine (HNU.out _).mono ?_; rintro e wC ⟨rfl, hwC⟩; obtain rfl : wB = wC := hwC.symm)
         | (refine step_append_ints rfl _ _ rfl w.heap.size _ (badN C last k) [m] (by simp [Act.eval]) ((owns_below HO.out hbB).alloc _) (some ⟨wB.heap.size, 0, none⟩) 1 (by simp [Act.eval]) (ints_one m) (fun h => by cases h) (by simp; omega) (by have := hbB.size; simp; omega) ?_
            intro v4 w4 ho4 hg4))
       all_goals
         have HB4 := hide (((bthen HBW.out hbB).alloc (show w.heap.size ≤ wB.heap.size by have := hbB.size; omega) _).grown hg4 (by have := hbB.size; simp; omega) (fun j hj => (HO.out.lt j hj).1))
         rw [← HS2.out] at ho4
         have HO4 := hide ho4
         clear ho4 hg4 hbB hwC HO HBW HAT HNU HS2 hbd
         go_wp2
         go_roundw
         case rel => exact ⟨k + 1, by omega, by go_num, HO4, HB4⟩
         case measure => simp [intOf]; omega
   · obtain rfl : k = C.b.ns.length := by omega
     have hbl2 := badN_len C last C.b.ns.length
     obtain ⟨pu, cu, rfl, hIu, _⟩ := owns_ints HO.out
     have HAD := hide (addC_any w0.heap.size M v vars rs (by omega) (badN C last C.b.ns.length) (by omega) pu cu wr hUr.sz hUr.cm hIu)
     have HUR := hide hUr
     have HKW := hide (Kp.later (M := M) (v := v) HBW.out)
     generalize badN C last C.b.ns.length = L at *
     clear hUr hBr hIu
     go_wp2_with fail
     refine HAD.out.mono ?_
     rintro e w4 ⟨rfl, v4, r4, hr4, hc4, hb4, hk4⟩
     have HE := hide (show MkOut w0 w M v (vars + 0) rs [L] C last (.returned (.tuple #[])) w4 from ⟨rfl, v4, _, by rw [numsOf_app, hr4], by simpa using HUR.out.next hc4 hb4 hk4, HKW.out.trans hk4⟩)
     clear hr4 hc4 hb4 hk4 HAD
     go_wp2
     go_end0
     exact HE.out
end Go.Proofs.YtjhkecnnhddhbaaGreatDoor

namespace Go.Proofs.YtjhkecnnhddhbaaGreatDoor
open Go.RowKit Go.Maps Go.WideMaps
set_option maxRecDepth 100000
def PtOut (w0 w : World) (M : Nat) (v : Value) (C : Ci) (last : Nat) (vs cs : Int) (L : List (List Int)) (nd : Option Int) (e : Ending) (w' : World) : Prop :=
 ∃ p : Prt, e = .returned p.v ∧ p.vs = vs ∧ p.cs = cs ∧ p.L = L ∧ p.need = nd ∧ Below w.heap.size w w' ∧ Bxs w' v M p.bx ∧ (((last : Int) + 1) * C.f ≤ 200000 → Makes w0 M C last p) ∧ (∀ (args : Array Value) (w : World), (callFunc p.fn args).run Tryz.prog w = .ok (.enter p.fn args) w)
theorem enter65 (args : Array Value) (w : World) : (callFunc 65 args).run Tryz.prog w = .ok (.enter 65 args) w := by kernel_rfl
theorem enter35 (args : Array Value) (w : World) : (callFunc 35 args).run Tryz.prog w = .ok (.enter 35 args) w := by kernel_rfl
theorem enter40 (args : Array Value) (w : World) : (callFunc 40 args).run Tryz.prog w = .ok (.enter 40 args) w := by kernel_rfl
theorem enter43 (args : Array Value) (w : World) : (callFunc 43 args).run Tryz.prog w = .ok (.enter 43 args) w := by kernel_rfl
theorem enter46 (args : Array Value) (w : World) : (callFunc 46 args).run Tryz.prog w = .ok (.enter 46 args) w := by kernel_rfl
theorem enter47 (args : Array Value) (w : World) : (callFunc 47 args).run Tryz.prog w = .ok (.enter 47 args) w := by kernel_rfl
theorem enter51 (args : Array Value) (w : World) : (callFunc 51 args).run Tryz.prog w = .ok (.enter 51 args) w := by kernel_rfl
theorem Un.new {w0 w : World} {M : Nat} {v : Value} {vars : Int} {rs : List Row} {C : Ci} {last : Nat} (h : Un w0 w M v vars rs C last) {g : Nat} (hg : w.heap.size ≤ g) : g ≠ M ∧ v.ownBlock ≠ some g := by
 have hM := World.block_lt_of_cell? _ _ h.cm.c0
 simp only at hM
 exact ⟨by omega, fun e => by have := (h.cm.row.lt _ e).2; omega⟩
theorem bonds_makes (w0 : World) (M : Nat) (C : Ci) (last : Nat) (hC : COk w0 C last) (U G S A : Nat) (cs : Int) :
   Makes w0 M C last ⟨0, cs, 65, #[.pointer (some ⟨S, 0, none⟩), .pointer (some ⟨A, 0, none⟩)], (⟨S, 0, none⟩, .int .i64 last) :: (⟨A, 0, none⟩, .func (.func 40) #[] #[.pointer (some ⟨G, 0, none⟩), .pointer (some ⟨U, 0, none⟩)]) :: [(⟨U, 0, none⟩, .pointer (some ⟨M, 0, none⟩)), (⟨G, 0, none⟩, C.n.v)], stepsL (bondsT C) last, none⟩ :=
 eachMake_any w0 M C last 40 _ _ _ (bondsT C) 0 (by decide) S A last (by have := hC.la; omega) 0 cs (by simp) enter40 (fun t ht w v vars rs h1 h2 h3 _ _ => bondsStep_any w0 M C last hC U G t ht w v vars rs h1 h2 h3)
theorem holds_makes (w0 : World) (M : Nat) (C : Ci) (last : Nat) (hC : COk w0 C last) (U G S A : Nat) (cs : Int) :
   Makes w0 M C last ⟨0, cs, 65, #[.pointer (some ⟨S, 0, none⟩), .pointer (some ⟨A, 0, none⟩)], (⟨S, 0, none⟩, .int .i64 (last + 1 : Nat)) :: (⟨A, 0, none⟩, .func (.func 43) #[] #[.pointer (some ⟨G, 0, none⟩), .pointer (some ⟨U, 0, none⟩)]) :: [(⟨U, 0, none⟩, .pointer (some ⟨M, 0, none⟩)), (⟨G, 0, none⟩, C.h.v)], stepsL (holdsT C) (last + 1), none⟩ :=
 eachMake_any w0 M C last 43 _ _ _ (holdsT C) 0 (by decide) S A (last + 1) (by have := hC.la; omega) 0 cs (by simp) enter43 (fun t ht w v vars rs h1 h2 h3 _ _ => holdsStep_any w0 M C last hC U G t (by omega) w v vars rs h1 h2 h3)
theorem ands_makes (w0 : World) (M : Nat) (C : Ci) (last : Nat) (hC : COk w0 C last) (U G S A : Nat) (cs : Int) :
   Makes w0 M C last ⟨((last + 1 : Nat) : Int) * C.f, cs, 65, #[.pointer (some ⟨S, 0, none⟩), .pointer (some ⟨A, 0, none⟩)], (⟨S, 0, none⟩, .int .i64 (last + 1 : Nat)) :: (⟨A, 0, none⟩, .func (.func 35) #[] #[.pointer (some ⟨U, 0, none⟩), .pointer (some ⟨G, 0, none⟩)]) :: [(⟨U, 0, none⟩, .pointer (some ⟨M, 0, none⟩)), (⟨G, 0, none⟩, .int .i64 C.ins), (⟨G, 1, none⟩, .slice C.p C.ps.length C.cap)], stepsL (fun t => andsT C t C.ps.length) (last + 1), none⟩ :=
 eachMake_any w0 M C last 35 _ _ _ (fun t => andsT C t C.ps.length) C.f hC.f0.1 S A (last + 1) (by have := hC.la; omega) _ cs rfl enter35 (fun t ht w v vars rs h1 h2 h3 h4 h5 => andsStep_any w0 M C last hC U G t (by omega) w v vars rs h1 h2 h3 h4 h5)
def set3 (w : World) (R : Nat) (a b c : Value) : World := ((w.setCell ⟨R, 0, none⟩ a).setCell ⟨R, 1, none⟩ b).setCell ⟨R, 2, none⟩ c
theorem set3_below {w0 w : World} {base R : Nat} (h : Below base w0 w) (hR : base ≤ R) (a b c : Value) : Below base w0 (set3 w R a b c) := ((h.setCell (p := ⟨R, 0, none⟩) hR _).setCell (p := ⟨R, 1, none⟩) hR _).setCell (p := ⟨R, 2, none⟩) hR _
theorem set3_bxs {w : World} {v : Value} {M R : Nat} {L : List (Addr × Value)} (h : Bxs w v M L) (hR : ∀ q x, (q, x) ∈ L → q.block ≠ R) (a b c : Value) : Bxs (set3 w R a b c) v M L := fun q x hq =>
 ⟨cell_set_far (cell_set_far (cell_set_far (h q x hq).1 (hR q x hq)) (hR q x hq)) (hR q x hq), (h q x hq).2⟩
theorem r45 {w : World} {R : Nat} {x y z : Value} (h : w.heap[R]? = some (.cells #[x, y, z] 45)) :
   (w.cell? ⟨R, 0, none⟩ = some x ∧ w.cell? ⟨R, 1, none⟩ = some y ∧ w.cell? ⟨R, 2, none⟩ = some z ∧ w.frozen? ⟨R, 0, none⟩ = false ∧ w.frozen? ⟨R, 1, none⟩ = false ∧ w.frozen? ⟨R, 2, none⟩ = false) ∧ ∀ a b c, (((w.setCell ⟨R, 0, none⟩ a).setCell ⟨R, 1, none⟩ b).setCell ⟨R, 2, none⟩ c).heap[R]? = some (.cells #[a, b, c] 45) := by
 refine ⟨⟨by rw [Lib.cell_of_heap h]; rfl, by rw [Lib.cell_of_heap h]; rfl, by rw [Lib.cell_of_heap h]; rfl, Lib.frozen_of_heap h 0, Lib.frozen_of_heap h 1, Lib.frozen_of_heap h 2⟩, fun a b c => ?_⟩
 rw [heap_setCell_same _ _ _ _ _ _ (heap_setCell_same _ _ _ _ _ _ (heap_setCell_same _ _ _ _ _ _ h))]
 rfl
structure Beg (w : World) (M : Nat) (x : Value) (ty : TypeId) : Prop where
 b2 : Below w.heap.size w ((w.alloc (.cells #[.pointer (some ⟨M, 0, none⟩)] 40)).alloc (.cells #[.int .i64 0, .int .i64 0, .nilFunc] 45))
 b3 : Below w.heap.size w (((w.alloc (.cells #[.pointer (some ⟨M, 0, none⟩)] 40)).alloc (.cells #[.int .i64 0, .int .i64 0, .nilFunc] 45)).alloc (.cells #[x] ty))
 c0 : (((w.alloc (.cells #[.pointer (some ⟨M, 0, none⟩)] 40)).alloc (.cells #[.int .i64 0, .int .i64 0, .nilFunc] 45)).alloc (.cells #[x] ty)).cell? ⟨w.heap.size, 0, none⟩ = some (.pointer (some ⟨M, 0, none⟩))
 g1 : (((w.alloc (.cells #[.pointer (some ⟨M, 0, none⟩)] 40)).alloc (.cells #[.int .i64 0, .int .i64 0, .nilFunc] 45)).alloc (.cells #[x] ty)).heap[w.heap.size + 1]? = some (.cells #[.int .i64 0, .int .i64 0, .nilFunc] 45)
 c2 : (((w.alloc (.cells #[.pointer (some ⟨M, 0, none⟩)] 40)).alloc (.cells #[.int .i64 0, .int .i64 0, .nilFunc] 45)).alloc (.cells #[x] ty)).cell? ⟨w.heap.size + 1 + 1, 0, none⟩ = some x
 s3 : (((w.alloc (.cells #[.pointer (some ⟨M, 0, none⟩)] 40)).alloc (.cells #[.int .i64 0, .int .i64 0, .nilFunc] 45)).alloc (.cells #[x] ty)).heap.size = w.heap.size + 3
theorem beg (w : World) (M : Nat) (x : Value) (ty : TypeId) : Beg w M x ty :=
 ⟨bal (bal (Below.refl _ _) _) _, bal (bal (bal (Below.refl _ _) _) _) _, by simp [go_sem], ((bal (Below.refl _ ((w.alloc (.cells #[.pointer (some ⟨M, 0, none⟩)] 40)).alloc (.cells #[.int .i64 0, .int .i64 0, .nilFunc] 45))) (.cells #[x] ty)).block (w.heap.size + 1) (by simp)).trans (alloc_at (by simp)), by simp [go_sem], by simp⟩
set_option maxHeartbeats 8000000 in
theorem bonds_any (w0 : World) (M : Nat) (C : Ci) (last : Nat) (hC : CO w0 C last) (w : World) (v : Value) (vars : Int) (rs : List Row) (hU : Un w0 w M v vars rs C last) :
   Calls Tryz.prog 13 #[.pointer (some ⟨M, 0, none⟩)] w (PtOut w0 w M v C last 0 (last * (cntB 0 C.n.ns C.n.ns.length + cntB 1 C.n.ns C.n.ns.length) : Nat) (stepsL (bondsT C) last) none) := by
 have hnl := hC.nl
 have hla := hC.la
 have hsm := hC.sm
 have hi1 := hC.i1
 have ha0 := hC.a0
 have HNW := hide (fun g (hg : w.heap.size ≤ g) => hU.new hg)
 have HMK := hide (fun U G S A cs (hv : ((last : Int) + 1) * C.f ≤ 200000) => bonds_makes w0 M C last ⟨hC, hv⟩ U G S A cs)
 have u7 := hU.un.u7
 have u10 := hU.un.u10
 have HI := hide (hC.at'.n.later hU.bl)
 have HB := hide (beg w M C.n.v 25)
 have x7 := cell_later HB.out.b2 u7
 have y10 := cell_later HB.out.b3 u10
 have y0 := HB.out.c0
 have y2 := HB.out.c2
 have HG := hide HB.out.g1
 have HB3 := hide HB.out.b3
 have hs3 := HB.out.s3
 have HI3 := hide (HI.out.later HB.out.b3)
 clear hC hU HB
 simp only [Sl.v] at *
 go_enter Tryz.func13, Tryz.ntmps13
 go_wp2
 generalize ((w.alloc (.cells #[.pointer (some ⟨M, 0, none⟩)] 40)).alloc (.cells #[.int .i64 0, .int .i64 0, .nilFunc] 45)).alloc (.cells #[.slice C.n.at' C.n.ns.length C.n.cap] 25) = w3 at *
 clear x7 u7 u10
 have hc0 := cntB_le 0 C.n.ns C.n.ns.length
 have hc1 := cntB_le 1 C.n.ns C.n.ns.length
 have HBS := hide (fun z (w' : World) (hb : IntsAt w' C.n.at' C.n.ns) => besides_any z C.n.ns C.n.at' C.n.cap (by omega) w' hb)
 go_quiet ((go_at_call 39; refine Calls.quiet_of_same (HBS.out _ _ HI3.out)))
 generalize cntB 0 C.n.ns C.n.ns.length = n0 at *
 generalize cntB 1 C.n.ns C.n.ns.length = n1 at *
 rw [show (n0 : Int) + (n1 : Int) = ((n0 + n1 : Nat) : Int) by omega]
 have hbq : Below w3.heap.size w3 (w3.drewN nq) := bdn (Below.refl _ _) nq
 have z0 := cell_later hbq y0
 have z2 := cell_later hbq y2
 have z10 := cell_later hbq y10
 have HG4 := hide ((hbq.block (w.heap.size + 1) (by omega)).trans HG.out)
 have HB4 := hide (bthen HB3.out hbq)
 have hs4 : (w3.drewN nq).heap.size = w.heap.size + 3 := hs3
 have HES := hide (eachStep_any last (by omega) (n0 + n1) (by omega) 40 (.pointer (some ⟨w.heap.size + 1 + 1, 0, none⟩)) (.pointer (some ⟨w.heap.size, 0, none⟩)) (w3.drewN nq))
 rw [hs4] at HES
 generalize last * (n0 + n1) = Z at *
 clear HG HB3 hs3 hbq y0 y2 y10 HI3 HBS
 generalize w3.drewN nq = w4 at *
 go_wp2_with fail
 refine HES.out.mono ?_
 rintro e w5 ⟨rfl, e1, e2, hb5⟩
 have hb5' : Below w4.heap.size w4 w5 := by rw [hs4]; exact hb5
 have HR := hide (r45 ((hb5'.block (w.heap.size + 1) (by omega)).trans HG4.out))
 obtain ⟨q0, q1, q2, f0, f1, f2⟩ := HR.out.1
 have HBX : Hid (Bxs w5 v M [(⟨w.heap.size + 3, 0, none⟩, .int .i64 last), (⟨w.heap.size + 3 + 1, 0, none⟩, .func (.func 40) #[] #[.pointer (some ⟨w.heap.size + 1 + 1, 0, none⟩), .pointer (some ⟨w.heap.size, 0, none⟩)]), (⟨w.heap.size, 0, none⟩, .pointer (some ⟨M, 0, none⟩)), (⟨w.heap.size + 1 + 1, 0, none⟩, .slice C.n.at' C.n.ns.length C.n.cap)]) := fun q x hq => by
   simp only [List.mem_cons, List.mem_nil_iff, or_false, Prod.mk.injEq] at hq
   rcases hq with ⟨rfl, rfl⟩ | ⟨rfl, rfl⟩ | ⟨rfl, rfl⟩ | ⟨rfl, rfl⟩
   · exact ⟨e1, HNW.out _ (by simp)⟩
   · exact ⟨e2, HNW.out _ (by simp; omega)⟩
   · exact ⟨cell_later hb5' z0, HNW.out _ (Nat.le_refl _)⟩
   · exact ⟨cell_later hb5' z2, HNW.out _ (by simp; omega)⟩
 have HB5 := hide (bthen HB4.out hb5')
 have HEND : Hid (PtOut w0 w M v C last 0 Z (stepsL (bondsT C) last) none (.returned (.agg #[.int .i64 0, .int .i64 Z, .func (.func 65) #[] #[.pointer (some ⟨w.heap.size + 3, 0, none⟩), .pointer (some ⟨w.heap.size + 3 + 1, 0, none⟩)]])) (set3 w5 (w.heap.size + 1) (.int .i64 0) (.int .i64 Z) (.func (.func 65) #[] #[.pointer (some ⟨w.heap.size + 3, 0, none⟩), .pointer (some ⟨w.heap.size + 3 + 1, 0, none⟩)]))) :=
   ⟨_, rfl, rfl, rfl, rfl, rfl, set3_below HB5.out (by omega) _ _ _, set3_bxs HBX.out (fun q x hq => by
     simp only [List.mem_cons, List.mem_nil_iff, or_false, Prod.mk.injEq] at hq
     rcases hq with ⟨rfl, rfl⟩ | ⟨rfl, rfl⟩ | ⟨rfl, rfl⟩ | ⟨rfl, rfl⟩ <;> simp <;> omega) _ _ _, HMK.out w.heap.size (w.heap.size + 1 + 1) _ _ Z, enter65⟩
 clear hb5 hb5' e1 e2 z0 z2 z10 HG4 HB4 HES HBX HB5 HMK HNW
 go_wp2
 refine bodyPost_ret (results_cell_row rfl _ _ (w.heap.size + 1) 45 _ _ _ rfl (HR.out.2 _ _ _) Tryz.underlying45 rfl (by kernel_rfl)) rfl ?_
 exact HEND.out
end Go.Proofs.YtjhkecnnhddhbaaGreatDoor

namespace Go.Proofs.YtjhkecnnhddhbaaGreatDoor
open Go.RowKit Go.Maps Go.WideMaps
set_option maxRecDepth 100000
theorem begins_makes (w0 : World) (M : Nat) (C : Ci) (last : Nat) (hC : COk w0 C last) (U G : Nat) (cs : Int) :
   Makes w0 M C last ⟨0, cs, 51, #[.pointer (some ⟨G, 0, none⟩), .pointer (some ⟨U, 0, none⟩)], [(⟨U, 0, none⟩, .pointer (some ⟨M, 0, none⟩)), (⟨G, 0, none⟩, C.i.v)], beginsT C, none⟩ :=
 fun w v vars rs h1 h2 h3 _ _ _ => beginsMake_any w0 M C last hC U G w v vars rs h1 h2 h3
theorem bad_makes (w0 : World) (M : Nat) (C : Ci) (last : Nat) (hC : COk w0 C last) (U : Nat) (cs : Int) :
   Makes w0 M C last ⟨0, cs, 47, #[.pointer (some ⟨U, 0, none⟩)], [(⟨U, 0, none⟩, .pointer (some ⟨M, 0, none⟩))], [badN C last C.b.ns.length], none⟩ :=
 fun w v vars rs h1 h2 h3 _ _ _ => badMake_any w0 M C last hC U w v vars rs h1 h2 h3
set_option maxHeartbeats 1000000 in
theorem none_makes (w0 : World) (M : Nat) (C : Ci) (last : Nat) (cs : Int) : Makes w0 M C last ⟨0, cs, 46, #[], [], [], none⟩ := by
 intro w v vars rs h1 h2 h3 _ _ _
 have HE := hide (show MkOut w0 w M v vars rs [] C last (.returned (.tuple #[])) w from ⟨rfl, v, rs, by simp, h1, Kp.refl _ _ _⟩)
 simp only
 clear h1 h2 h3
 go_enter Tryz.func46, Tryz.ntmps46
 go_wp2
 go_end0
 exact HE.out
set_option maxHeartbeats 8000000 in
theorem begins_any (w0 : World) (M : Nat) (C : Ci) (last : Nat) (hC : CO w0 C last) (w : World) (v : Value) (vars : Int) (rs : List Row) (hU : Un w0 w M v vars rs C last) :
   Calls Tryz.prog 19 #[.pointer (some ⟨M, 0, none⟩)] w (PtOut w0 w M v C last 0 (cntB (-1) C.i.ns C.i.ns.length : Nat) (beginsT C) none) := by
 have hil := hC.il
 have hsm := hC.sm
 have hi1 := hC.i1
 have ha0 := hC.a0
 have HNW := hide (fun g (hg : w.heap.size ≤ g) => hU.new hg)
 have HMK := hide (fun U G cs (hv : ((last : Int) + 1) * C.f ≤ 200000) => begins_makes w0 M C last ⟨hC, hv⟩ U G cs)
 have u7 := hU.un.u6
 have HI := hide (hC.at'.i.later hU.bl)
 have HB := hide (beg w M C.i.v 25)
 have x7 := cell_later HB.out.b2 u7
 have y0 := HB.out.c0
 have y2 := HB.out.c2
 have HR := hide (r45 HB.out.g1)
 have HB3 := hide HB.out.b3
 have HI3 := hide (HI.out.later HB.out.b3)
 clear hC hU HB u7
 simp only [Sl.v] at *
 go_enter Tryz.func19, Tryz.ntmps19
 go_wp2_with fail
 generalize ((w.alloc (.cells #[.pointer (some ⟨M, 0, none⟩)] 40)).alloc (.cells #[.int .i64 0, .int .i64 0, .nilFunc] 45)).alloc (.cells #[.slice C.i.at' C.i.ns.length C.i.cap] 25) = w3 at *
 refine (besides_any (-1) C.i.ns C.i.at' C.i.cap (by omega) w3 HI3.out).mono ?_
 rintro e w4 ⟨rfl, hw⟩
 obtain rfl : w3 = w4 := hw.symm
 obtain ⟨q0, q1, q2, f0, f1, f2⟩ := HR.out.1
 generalize cntB (-1) C.i.ns C.i.ns.length = Z at *
 have HBX : Hid (Bxs w3 v M [(⟨w.heap.size, 0, none⟩, .pointer (some ⟨M, 0, none⟩)), (⟨w.heap.size + 1 + 1, 0, none⟩, .slice C.i.at' C.i.ns.length C.i.cap)]) := fun q x hq => by
   simp only [List.mem_cons, List.mem_nil_iff, or_false, Prod.mk.injEq] at hq
   rcases hq with ⟨rfl, rfl⟩ | ⟨rfl, rfl⟩
   · exact ⟨y0, HNW.out _ (Nat.le_refl _)⟩
   · exact ⟨y2, HNW.out _ (by simp; omega)⟩
 have HEND : Hid (PtOut w0 w M v C last 0 Z (beginsT C) none (.returned (.agg #[.int .i64 0, .int .i64 Z, .func (.func 51) #[] #[.pointer (some ⟨w.heap.size + 1 + 1, 0, none⟩), .pointer (some ⟨w.heap.size, 0, none⟩)]])) (set3 w3 (w.heap.size + 1) (.int .i64 0) (.int .i64 Z) (.func (.func 51) #[] #[.pointer (some ⟨w.heap.size + 1 + 1, 0, none⟩), .pointer (some ⟨w.heap.size, 0, none⟩)]))) :=
   ⟨_, rfl, rfl, rfl, rfl, rfl, set3_below HB3.out (by omega) _ _ _, set3_bxs HBX.out (fun q x hq => by
     simp only [List.mem_cons, List.mem_nil_iff, or_false, Prod.mk.injEq] at hq
     rcases hq with ⟨rfl, rfl⟩ | ⟨rfl, rfl⟩ <;> simp) _ _ _, HMK.out w.heap.size (w.heap.size + 1 + 1) Z, enter51⟩
 clear x7 y0 y2 HB3 HBX HMK HNW HI3 HI hw
 go_wp2
 refine bodyPost_ret (results_cell_row rfl _ _ (w.heap.size + 1) 45 _ _ _ rfl (HR.out.2 _ _ _) Tryz.underlying45 rfl (by kernel_rfl)) rfl ?_
 exact HEND.out
def badC (C : Ci) (last : Nat) : List (List Int) := if (1 : Int) ∈ C.b.ns then [] else [badN C last C.b.ns.length]
set_option maxHeartbeats 8000000 in
theorem bad_any (w0 : World) (M : Nat) (C : Ci) (last : Nat) (hC : CO w0 C last) (w : World) (v : Value) (vars : Int) (rs : List Row) (hU : Un w0 w M v vars rs C last) :
   Calls Tryz.prog 15 #[.pointer (some ⟨M, 0, none⟩)] w (PtOut w0 w M v C last 0 ((badC C last).length : Nat) (badC C last) none) := by
 have hbl := hC.bl
 have HNW := hide (fun g (hg : w.heap.size ≤ g) => hU.new hg)
 have HMK := hide (fun U cs (hv : ((last : Int) + 1) * C.f ≤ 200000) => bad_makes w0 M C last ⟨hC, hv⟩ U cs)
 have HI := hide (hC.at'.b.later hU.bl)
 have hb2 : Below w.heap.size w ((w.alloc (.cells #[.pointer (some ⟨M, 0, none⟩)] 40)).alloc (.cells #[.int .i64 0, .int .i64 0, .nilFunc] 45)) := bal (bal (Below.refl _ _) _) _
 have x8 := cell_later hb2 hU.un.u8
 have y0 : ((w.alloc (.cells #[.pointer (some ⟨M, 0, none⟩)] 40)).alloc (.cells #[.int .i64 0, .int .i64 0, .nilFunc] 45)).cell? ⟨w.heap.size, 0, none⟩ = some (.pointer (some ⟨M, 0, none⟩)) := by simp [go_sem]
 have hg : ((w.alloc (.cells #[.pointer (some ⟨M, 0, none⟩)] 40)).alloc (.cells #[.int .i64 0, .int .i64 0, .nilFunc] 45)).heap[w.heap.size + 1]? = some (.cells #[.int .i64 0, .int .i64 0, .nilFunc] 45) := alloc_at (by simp)
 have HR := hide (r45 hg)
 have HB2 := hide hb2
 have HI3 := hide (HI.out.later hb2)
 have HD : Hid (badC C last = if (1 : Int) ∈ C.b.ns then [] else [badN C last C.b.ns.length]) := rfl
 clear hC hU hb2 hg
 simp only [Sl.v] at *
 go_enter Tryz.func15, Tryz.ntmps15
 go_wp2_with fail
 generalize (w.alloc (.cells #[.pointer (some ⟨M, 0, none⟩)] 40)).alloc (.cells #[.int .i64 0, .int .i64 0, .nilFunc] 45) = w3 at *
 refine (containsI_any 1 C.b.ns C.b.at' C.b.cap (by omega) w3 HI3.out).mono ?_
 rintro e w4 ⟨rfl, hw⟩
 obtain rfl : w3 = w4 := hw.symm
 obtain ⟨q0, q1, q2, f0, f1, f2⟩ := HR.out.1
 by_cases h1 : (1 : Int) ∈ C.b.ns
 · have HE : Hid (badC C last = []) := by unfold Hid; rw [HD.out, if_pos h1]
   have hd : decide ((1 : Int) ∈ C.b.ns) = true := by simpa using h1
   rw [hd]
   have HEND : Hid (PtOut w0 w M v C last 0 ((([] : List (List Int)).length : Nat) : Int) [] none (.returned (.agg #[.int .i64 0, .int .i64 0, .func (.func 46) #[] #[]])) (set3 w3 (w.heap.size + 1) (.int .i64 0) (.int .i64 0) (.func (.func 46) #[] #[]))) :=
     ⟨⟨0, 0, 46, #[], [], [], none⟩, rfl, rfl, rfl, rfl, rfl, set3_below HB2.out (by omega) _ _ _, fun q x hq => by simp at hq, fun _ => none_makes w0 M C last 0, enter46⟩
   clear x8 y0 HB2 HMK HNW HI3 HI hw HD h1 hd
   go_wp2
   refine bodyPost_ret (results_cell_row rfl _ _ (w.heap.size + 1) 45 _ _ _ rfl (HR.out.2 _ _ _) Tryz.underlying45 rfl (by kernel_rfl)) rfl ?_
   rw [HE.out]
   exact HEND.out
 · have HE : Hid (badC C last = [badN C last C.b.ns.length]) := by unfold Hid; rw [HD.out, if_neg h1]
   have hd : decide ((1 : Int) ∈ C.b.ns) = false := by simpa using h1
   rw [hd]
   have HBX : Hid (Bxs w3 v M [(⟨w.heap.size, 0, none⟩, .pointer (some ⟨M, 0, none⟩))]) := fun q x hq => by
     simp only [List.mem_cons, List.mem_nil_iff, or_false, Prod.mk.injEq] at hq
     rcases hq with ⟨rfl, rfl⟩
     exact ⟨y0, HNW.out _ (Nat.le_refl _)⟩
   have HEND : Hid (PtOut w0 w M v C last 0 (([badN C last C.b.ns.length].length : Nat) : Int) [badN C last C.b.ns.length] none (.returned (.agg #[.int .i64 0, .int .i64 1, .func (.func 47) #[] #[.pointer (some ⟨w.heap.size, 0, none⟩)]])) (set3 w3 (w.heap.size + 1) (.int .i64 0) (.int .i64 1) (.func (.func 47) #[] #[.pointer (some ⟨w.heap.size, 0, none⟩)]))) :=
     ⟨_, rfl, rfl, rfl, rfl, rfl, set3_below HB2.out (by omega) _ _ _, set3_bxs HBX.out (fun q x hq => by
       simp only [List.mem_cons, List.mem_nil_iff, or_false, Prod.mk.injEq] at hq
       rcases hq with ⟨rfl, rfl⟩
       simp) _ _ _, HMK.out w.heap.size 1, enter47⟩
   clear x8 y0 HB2 HMK HNW HI3 HI hw HD h1 hd HBX
   go_wp2
   refine bodyPost_ret (results_cell_row rfl _ _ (w.heap.size + 1) 45 _ _ _ rfl (HR.out.2 _ _ _) Tryz.underlying45 rfl (by kernel_rfl)) rfl ?_
   rw [HE.out]
   exact HEND.out
end Go.Proofs.YtjhkecnnhddhbaaGreatDoor
