/- Pairs of a state and a node. -/
import Derived.Test.YtjhkecnnhddhbaaGreatDoorMhM
import Derived.Maps.OwnOps
import Derived.Maps.OwnSet
import Derived.Test.YtjhkecnnhddhbaaGreatDoorBdM
import Derived.Test.YtjhkecnnhddhbaaGreatDoorMbM
namespace Go.Proofs.YtjhkecnnhddhbaaGreatDoor.Ev
open Go.RowKit
set_option maxRecDepth 100000
def kdOf (ns : List Nd) (x : Int) : Int := match ns[x.toNat]? with | some y => y.kind | none => 0
theorem kd_wd {w : World} {b off : Nat} {ns : List Nd} (hc : ∀ (i : Nat) (h : i < ns.length),
   w.cell? ⟨b, off + i * 6, none⟩ = some (.int .i64 ns[i].kind) ∧ w.cell? ⟨b, off + i * 6 + 1, none⟩ = some (.int .i64 ns[i].width) ∧
   w.cell? ⟨b, off + i * 6 + 2, none⟩ = some (.int .i64 ns[i].a) ∧ w.cell? ⟨b, off + i * 6 + 3, none⟩ = some (.int .i64 ns[i].b) ∧
   w.cell? ⟨b, off + i * 6 + 4, none⟩ = some (.int .i64 ns[i].c) ∧ w.cell? ⟨b, off + i * 6 + 5, none⟩ = some (.int .i64 ns[i].n)) (x : Int) (h0 : 0 ≤ x) (h1 : x < ns.length) :
   w.cell? ⟨b, off + x.toNat * 6, none⟩ = some (.int .i64 (kdOf ns x)) ∧ w.cell? ⟨b, off + x.toNat * 6 + 1, none⟩ = some (.int .i64 (wdOf ns x)) := by
 refine ⟨?_, wd_cell hc x h0 h1⟩
 rw [(hc x.toNat (by omega)).1]
 unfold kdOf
 rw [List.getElem?_eq_getElem (by omega)]
def pairE (ns : List Nd) (s x : Int) : Int :=
 if isN ns.length s = false ∨ kdOf ns s ≠ 3 ∨ isN ns.length x = false then 5 else if wdOf ns s ≠ wdOf ns x then 1 else 0
theorem isNode_below (m : Mv) (len : Nat) (hl : len ≤ maxLen) (x : Int) (w : World) :
   Calls Tryz.prog 116 #[m.val len, .int .i64 x] w fun e w' => e = .returned (.bool (isN len x)) ∧ Below w.heap.size w w' :=
 (isNode_any m len hl x w).mono fun _ _ ⟨he, hw⟩ => ⟨he, by rw [hw]; exact bal (Below.refl _ _) _⟩
set_option maxRecDepth 100000 in
set_option maxHeartbeats 1000000 in
theorem checkPair_any (m : Mv) (ns : List Nd) (hl : ns.length ≤ 80) (s x : Int) (w : World) (hN : NodesAt w m.a0 ns) :
   Calls Tryz.prog 111 #[m.val ns.length, .agg #[.int .i64 s, .int .i64 x]] w fun e w' => e = .returned (.int .i64 (pairE ns s x)) ∧ Below w.heap.size w w' := by
 obtain ⟨a0, c0, a1, l1, c1, a2, l2, c2, a3, l3, c3, a4, l4, c4⟩ := m
 simp only at hN
 by_cases hs : isN ns.length s = true
 · obtain ⟨s0, s1⟩ := isN_true.1 hs
   obtain ⟨b, off, rfl, hc⟩ := hN (by omega)
   have HC : Hid _ := hc
   clear hc hN
   go_enter Tryz.func111, Tryz.ntmps111
   go_wp2_with fail
   refine (isNode_below ⟨(some ⟨b, off, none⟩), c0, a1, l1, c1, a2, l2, c2, a3, l3, c3, a4, l4, c4⟩ ns.length (by unfold maxLen; omega) s _).mono ?_
   rintro e w1 ⟨rfl, hb1⟩
   have hbA : Below w.heap.size w ((w.alloc (.cells (Mv.cells ⟨(some ⟨b, off, none⟩), c0, a1, l1, c1, a2, l2, c2, a3, l3, c3, a4, l4, c4⟩ ns.length) 65)).alloc (.cells #[.int .i64 s, .int .i64 x] 95)) := bal (bal (Below.refl _ _) _) _
   have m0 := cell_later hb1 (a := ⟨w.heap.size, 0, none⟩) (v := .slice (some ⟨b, off, none⟩) ns.length c0) (by simp [go_sem])
   have m1 := cell_later hb1 (a := ⟨w.heap.size, 1, none⟩) (v := .slice a1 l1 c1) (by simp [go_sem])
   have m2 := cell_later hb1 (a := ⟨w.heap.size, 2, none⟩) (v := .slice a2 l2 c2) (by simp [go_sem])
   have m3 := cell_later hb1 (a := ⟨w.heap.size, 3, none⟩) (v := .slice a3 l3 c3) (by simp [go_sem])
   have m4 := cell_later hb1 (a := ⟨w.heap.size, 4, none⟩) (v := .slice a4 l4 c4) (by simp [go_sem])
   have p0 := cell_later hb1 (a := ⟨w.heap.size + 1, 0, none⟩) (v := .int .i64 s) (by simp [go_sem])
   have p1 := cell_later hb1 (a := ⟨w.heap.size + 1, 1, none⟩) (v := .int .i64 x) (by simp [go_sem])
   have hbw := bthen hbA hb1
   have hS := kd_wd HC.out s s0 s1
   have ks := cell_later hbw hS.1
   have ws := cell_later hbw hS.2
   clear hS hb1 hbA
   by_cases h3 : kdOf ns s = 3
   · have h3' : (kdOf ns s != 3) = false := by simp [h3]
     have H3 : Hid _ := h3
     clear h3
     go_wp2_with fail
     refine (isNode_below ⟨some ⟨b, off, none⟩, c0, a1, l1, c1, a2, l2, c2, a3, l3, c3, a4, l4, c4⟩ ns.length (by unfold maxLen; omega) x _).mono ?_
     rintro e w2 ⟨rfl, hb2⟩
     have k0 := cell_later hb2 m0
     have k1 := cell_later hb2 p0
     have k2 := cell_later hb2 p1
     have k3 := cell_later hb2 ws
     have hbw2 := bthen hbw hb2
     clear m0 m1 m2 m3 m4 p0 p1 ks ws hb2 hbw
     by_cases hx : isN ns.length x = true
     · obtain ⟨x0, x1⟩ := isN_true.1 hx
       have k4 := cell_later hbw2 (kd_wd HC.out x x0 x1).2
       have HE : Hid (pairE ns s x = if wdOf ns s ≠ wdOf ns x then 1 else 0) := by
         unfold pairE; rw [if_neg (by simp [hs, hx, H3.out])]; rfl
       by_cases he : wdOf ns s = wdOf ns x
       · have HE2 : Hid (pairE ns s x = 0) := by rw [HE.out, if_neg (by simp [he])]; rfl
         have he' : (wdOf ns s != wdOf ns x) = false := by simp [he]
         clear he HE
         go_wp2
         go_quiet (fail)
         go_wp2
         go_ret
         exact ⟨ret_int HE2.out.symm, below_drewN hbw2 _⟩
       · have HE2 : Hid (pairE ns s x = 1) := by rw [HE.out, if_pos he]; rfl
         have he' : (wdOf ns s != wdOf ns x) = true := by simp [he]
         clear he HE
         go_wp2
         go_quiet (fail)
         go_wp2
         go_ret
         exact ⟨ret_int HE2.out.symm, below_drewN hbw2 _⟩
     · have hx' : isN ns.length x = false := by simpa using hx
       have HE : Hid (pairE ns s x = 5) := by unfold pairE; rw [if_pos (by simp [hx'])]; rfl
       clear hx
       go_wp2
       go_ret
       exact ⟨ret_int HE.out.symm, hbw2⟩
   · have h3' : (kdOf ns s != 3) = true := by simp [h3]
     have HE : Hid (pairE ns s x = 5) := by unfold pairE; rw [if_pos (by simp [h3])]; rfl
     clear h3
     go_wp2
     go_ret
     exact ⟨ret_int HE.out.symm, hbw⟩
 · have hs' : isN ns.length s = false := by simpa using hs
   have HE : Hid (pairE ns s x = 5) := by unfold pairE; rw [if_pos (by simp [hs'])]; rfl
   clear hs hN
   go_enter Tryz.func111, Tryz.ntmps111
   go_wp2_with fail
   refine (isNode_below ⟨a0, c0, a1, l1, c1, a2, l2, c2, a3, l3, c3, a4, l4, c4⟩ ns.length (by unfold maxLen; omega) s _).mono ?_
   rintro e w1 ⟨rfl, hb1⟩
   have hbA : Below w.heap.size w ((w.alloc (.cells (Mv.cells ⟨a0, c0, a1, l1, c1, a2, l2, c2, a3, l3, c3, a4, l4, c4⟩ ns.length) 65)).alloc (.cells #[.int .i64 s, .int .i64 x] 95)) := bal (bal (Below.refl _ _) _) _
   have m0 := cell_later hb1 (a := ⟨w.heap.size, 0, none⟩) (v := .slice a0 ns.length c0) (by simp [go_sem])
   have m1 := cell_later hb1 (a := ⟨w.heap.size, 1, none⟩) (v := .slice a1 l1 c1) (by simp [go_sem])
   have m2 := cell_later hb1 (a := ⟨w.heap.size, 2, none⟩) (v := .slice a2 l2 c2) (by simp [go_sem])
   have m3 := cell_later hb1 (a := ⟨w.heap.size, 3, none⟩) (v := .slice a3 l3 c3) (by simp [go_sem])
   have m4 := cell_later hb1 (a := ⟨w.heap.size, 4, none⟩) (v := .slice a4 l4 c4) (by simp [go_sem])
   have p0 := cell_later hb1 (a := ⟨w.heap.size + 1, 0, none⟩) (v := .int .i64 s) (by simp [go_sem])
   have p1 := cell_later hb1 (a := ⟨w.heap.size + 1, 1, none⟩) (v := .int .i64 x) (by simp [go_sem])
   have hbw := bthen hbA hb1
   go_wp2
   go_ret
   exact ⟨ret_int HE.out.symm, hbw⟩
end Go.Proofs.YtjhkecnnhddhbaaGreatDoor.Ev

namespace Go.Proofs.YtjhkecnnhddhbaaGreatDoor.Ev
open Go.RowKit Go.Maps
set_option maxRecDepth 100000
theorem law3 : Keyed Tryz.prog 3 := int_keyed Tryz.underlying3
theorem zero3 (w : World) : (zeroValue 3).run Tryz.prog w = .ok (.int .i64 0) w := by kernel_rfl
def PairsAt (w : World) (p : Option Addr) (l : List (Int × Int)) : Prop :=
 0 < l.length → ∃ b off, p = some ⟨b, off, none⟩ ∧ ∀ (i : Nat) (h : i < l.length), w.cell? ⟨b, off + i * 2, none⟩ = some (.int .i64 l[i].1) ∧ w.cell? ⟨b, off + i * 2 + 1, none⟩ = some (.int .i64 l[i].2)
theorem PairsAt.later {w w1 : World} {p : Option Addr} {l : List (Int × Int)} (h : PairsAt w p l) (hb : Below w.heap.size w w1) : PairsAt w1 p l := by
 intro h0
 obtain ⟨b, off, hp, hc⟩ := h h0
 exact ⟨b, off, hp, fun i hi => ⟨cell_later hb (hc i hi).1, cell_later hb (hc i hi).2⟩⟩
def dup : List Int → Bool
 | [] => false
 | x :: l => l.contains x || dup l
theorem dup_snoc (l : List Int) (x : Int) : dup (l ++ [x]) = (dup l || l.contains x) := by
 induction l with
 | nil => simp [dup]
 | cons a l ih =>
   simp only [List.cons_append, dup, ih, List.contains_append, List.contains_cons, List.contains_nil]
   have e : (x == a) = (a == x) := by rw [Bool.eq_iff_iff, beq_iff_eq, beq_iff_eq]; exact ⟨Eq.symm, Eq.symm⟩
   rw [e]
   cases dup l <;> cases l.contains x <;> cases l.contains a <;> cases (a == x) <;> rfl
theorem lit_inj {c d : Int} (h : (DataW.lit (.int .i64 c) : DataW Unit) = .lit (.int .i64 d)) : c = d := by
 injection h with h
 injection h
def has01 (l : List Int) (x : Int) : Int := if l.contains x then 1 else 0
theorem dup_mono (l r : List Int) (h : dup l = true) : dup (l ++ r) = true := by
 induction l with
 | nil => simp [dup] at h
 | cons a l ih =>
   simp only [dup, Bool.or_eq_true] at h
   simp only [List.cons_append, dup, Bool.or_eq_true]
   rcases h with h | h
   · left; simp at h ⊢; exact Or.inl h
   · right; exact ih h
def fsts (l : List (Int × Int)) : List Int := l.map (·.1)
theorem fsts_take (l : List (Int × Int)) (k : Nat) (h : k < l.length) : fsts (l.take (k + 1)) = fsts (l.take k) ++ [l[k].1] := by
 unfold fsts
 rw [List.take_succ_eq_append_getElem h]
 simp only [List.map_append, List.map_cons, List.map_nil]
theorem cb01 {D : DataW Unit} {s c v h : Int} (hv : h = v) (hat : D.atKey (.int .i64 s) (.lit (.int .i64 0)) = .lit (.int .i64 c)) (hh : D.atKey (.int .i64 s) (.lit (.int .i64 0)) = .lit (.int .i64 h)) : v ≤ c ∧ c ≤ v := by
 rw [hat] at hh
 have := lit_inj hh
 omega
theorem cb02 {D : DataW Unit} {s c d : Int} (hm : IsMap D) (hat : (D.put (.int .i64 s) (.lit (.int .i64 d))).atKey (.int .i64 s) (.lit (.int .i64 0)) = .lit (.int .i64 c)) : d ≤ c ∧ c ≤ d := by
 rw [atKey_put_same hm (k := .int .i64 s) trivial] at hat
 have := lit_inj hat
 omega
set_option maxRecDepth 100000 in
set_option maxHeartbeats 2000000 in
theorem twice_any (p : Option Addr) (cap : Nat) (l : List (Int × Int)) (hl : l.length ≤ 8796093022208) (hs : ∀ (i : Nat) (h : i < l.length), 0 ≤ l[i].1 ∧ l[i].1 < 80) (w : World) (hP : PairsAt w p l) :
   Calls Tryz.prog 112 #[.slice p l.length cap] w fun e w' => e = .returned (.bool (dup (fsts l))) ∧ Below w.heap.size w w' := by
 have hmm := @run_makeMap Tryz.prog
 have HS : Hid _ := hs
 clear hs
 go_enter Tryz.func112, Tryz.ntmps112
 go_wp2
 go_loopw [9] (fun i wr => ∃ k : Nat, k ≤ l.length ∧ i = .int .i64 k ∧ Below w.heap.size w wr ∧ ∃ D : DataW Unit, wr.ownsMap Tryz.prog 3 (plainElem Tryz.prog 3) w.heap.size k D ∧ Hid (dup (fsts (l.take k)) = false ∧ ∀ x : Int, D.atKey (.int .i64 x) (.lit (.int .i64 0)) = .lit (.int .i64 (has01 (fsts (l.take k)) x)))) (fun i _ => l.length - (intOf i).toNat)
 case atStart => exact ⟨0, Nat.zero_le _, rfl, bal (Below.refl _ _) _, .map [], World.ownsMap_made _ _ _ _, rfl, fun x => rfl⟩
 case round =>
   obtain ⟨k, hk, rfl, hbw, D, hown, hD⟩ := hrel
   by_cases hlt : k < l.length
   · obtain ⟨b, off, rfl, hc⟩ := (hP.later hbw) (by omega)
     obtain ⟨c0, c1⟩ := hc k hlt
     have hsk := HS.out k hlt
     have HF : Hid _ := fsts_take l k hlt
     clear hc
     generalize l[k] = pr at *
     obtain ⟨s, y⟩ := pr
     simp only at *
     have hkey : keyOf Tryz.prog 3 (.int .i64 s) = some (.int .i64 s) := keyOf_int_mk Tryz.underlying3 (WalkArith.wf_i64 (by omega))
     have hlw := hown.lt
     cases hcn : (fsts (l.take k)).contains s
     · have H01 : Hid (has01 (fsts (l.take k)) s = 0) := by unfold has01; rw [hcn]; rfl
       have HN : Hid _ := hcn
       clear hcn
       go_wp2_with (first
         | (at_lookup; refine wpList_lookup_own_int _ rfl _ _ 127 rfl 3 3 .i64 law3 Tryz.underlying127 Tryz.underlying3 (zero3 _) w.heap.size k _ rfl (hown.alloc _) _ _ rfl hkey ?_; intro c hat hwc; have hcb : 0 ≤ c ∧ c ≤ 0 := cb01 H01.out hat (hD.out.2 s))
         | (at_mapUpdate; refine wpList_mapUpdate_own _ rfl _ _ _ 127 rfl 3 3 law3 Tryz.underlying127 _ w.heap.size k _ rfl (hown.alloc _) (by unfold maxLen; omega) _ _ _ rfl rfl hkey _ [] (plainElem_int Tryz.underlying3 (WalkArith.wf_i64 (by omega))) ?_; intro w1 hown1 hgrow1; have d0 : w1.cell? ⟨wr.heap.size, 0, none⟩ = some (.int .i64 s) := hgrow1.cell (by simp [go_sem]) (by simp; omega))
         | (at_lookup; refine wpList_lookup_own_int _ rfl _ _ 127 rfl 3 3 .i64 law3 Tryz.underlying127 Tryz.underlying3 (zero3 _) w.heap.size (k + 1) _ rfl hown1 _ _ rfl hkey ?_; intro c2 hat2 hwc2; have hcb2 : c + 1 ≤ c2 ∧ c2 ≤ c + 1 := cb02 hown.isMap hat2))
       have hnew : Hid (dup (fsts (l.take (k + 1))) = false ∧ ∀ x : Int, (D.put (.int .i64 s) (.lit (.int .i64 (c + 1)))).atKey (.int .i64 x) (.lit (.int .i64 0)) = .lit (.int .i64 (has01 (fsts (l.take (k + 1))) x))) := by
         rw [HF.out]
         refine ⟨by rw [dup_snoc, hD.out.1, HN.out]; rfl, fun x => ?_⟩
         by_cases hx : x = s
         · subst hx
           rw [atKey_put_same hown.isMap (k := .int .i64 x) trivial]
           have : has01 (fsts (l.take k) ++ [x]) x = 1 := by simp [has01]
           rw [this, show c + 1 = 1 from by omega]
         · rw [atKey_put_other (by simpa using hx), hD.out.2 x]
           congr 2
           simp [has01, hx]
       have hbn : Below w.heap.size w w1 := (bal hbw _).grown hgrow1 (by simp; omega) (fun j hj => by cases hj; exact Nat.le_refl _)
       go_roundw
       case rel => exact ⟨k + 1, by omega, by go_num, hbn, _, hown1, hnew⟩
       case measure => simp [intOf]; omega
     · have H01 : Hid (has01 (fsts (l.take k)) s = 1) := by unfold has01; rw [hcn]; rfl
       have HE : Hid (dup (fsts l) = true) := by
         have h1 : dup (fsts (l.take (k + 1))) = true := by rw [HF.out, dup_snoc, hcn]; simp
         have h2 : fsts l = fsts (l.take (k + 1)) ++ fsts (l.drop (k + 1)) := by unfold fsts; rw [← List.map_append, List.take_append_drop]
         rw [h2]; exact dup_mono _ _ h1
       clear hcn
       go_wp2_with (first
         | (at_lookup; refine wpList_lookup_own_int _ rfl _ _ 127 rfl 3 3 .i64 law3 Tryz.underlying127 Tryz.underlying3 (zero3 _) w.heap.size k _ rfl (hown.alloc _) _ _ rfl hkey ?_; intro c hat hwc; have hcb : 1 ≤ c ∧ c ≤ 1 := cb01 H01.out hat (hD.out.2 s))
         | (at_mapUpdate; refine wpList_mapUpdate_own _ rfl _ _ _ 127 rfl 3 3 law3 Tryz.underlying127 _ w.heap.size k _ rfl (hown.alloc _) (by unfold maxLen; omega) _ _ _ rfl rfl hkey _ [] (plainElem_int Tryz.underlying3 (WalkArith.wf_i64 (by omega))) ?_; intro w1 hown1 hgrow1; have d0 : w1.cell? ⟨wr.heap.size, 0, none⟩ = some (.int .i64 s) := hgrow1.cell (by simp [go_sem]) (by simp; omega))
         | (at_lookup; refine wpList_lookup_own_int _ rfl _ _ 127 rfl 3 3 .i64 law3 Tryz.underlying127 Tryz.underlying3 (zero3 _) w.heap.size (k + 1) _ rfl hown1 _ _ rfl hkey ?_; intro c2 hat2 hwc2; have hcb2 : c + 1 ≤ c2 ∧ c2 ≤ c + 1 := cb02 hown.isMap hat2))
       have hbn : Below w.heap.size w w1 := (bal hbw _).grown hgrow1 (by simp; omega) (fun j hj => by cases hj; exact Nat.le_refl _)
       go_ret
       exact ⟨ret_bool HE.out.symm, hbn⟩
   · obtain rfl : k = l.length := by omega
     have HE : Hid (dup (fsts l) = false) := by have := hD.out.1; rwa [List.take_length] at this
     go_wp2
     go_ret
     exact ⟨ret_bool HE.out.symm, hbw⟩
end Go.Proofs.YtjhkecnnhddhbaaGreatDoor.Ev

namespace Go.Proofs.YtjhkecnnhddhbaaGreatDoor.Ev
open Go.RowKit Go.Maps
set_option maxRecDepth 100000
def lastV (l : List (Int × Int)) (x : Int) : Int := l.foldl (fun a p => if p.1 = x then p.2 else a) 0
theorem lastV_snoc (l : List (Int × Int)) (p : Int × Int) (x : Int) : lastV (l ++ [p]) x = if p.1 = x then p.2 else lastV l x := by simp [lastV, List.foldl_append]
theorem run_makeMap92 (n : Nat) (w : World) : (Instr.makeMap 127 (some (.int .i64 (n : Int)))).run Tryz.prog w = .ok (.map (some w.heap.size)) (w.alloc (.map #[] 0)) := by
 simp [Instr.makeMap]; rfl
structure PartIs (l : List (Int × Int)) (D : DataW Unit) : Prop where
 has : ∀ x : Int, Maps.has D (.int .i64 x) = (fsts l).contains x
 at' : ∀ x : Int, D.atKey (.int .i64 x) (.lit (.int .i64 0)) = .lit (.int .i64 (lastV l x))
theorem partIs_zero : PartIs [] (.map []) := ⟨fun _ => rfl, fun _ => rfl⟩
theorem PartIs.step {l : List (Int × Int)} {D : DataW Unit} (h : PartIs l D) (hm : IsMap D) (s y : Int) : PartIs (l ++ [(s, y)]) (D.put (.int .i64 s) (.lit (.int .i64 y))) := by
 refine ⟨fun x => ?_, fun x => ?_⟩
 · by_cases e : x = s
   · subst e
     rw [has_put_same hm (k := .int .i64 x) trivial]
     simp [fsts]
   · rw [has_put_other (by simpa using e), h.has x]
     simp [fsts, e]
 · rw [lastV_snoc]
   by_cases e : x = s
   · subst e
     rw [atKey_put_same hm (k := .int .i64 x) trivial, if_pos rfl]
   · rw [atKey_put_other (by simpa using e), h.at' x, if_neg (fun q => e q.symm)]
set_option maxHeartbeats 2000000 in
theorem partners_any (p : Option Addr) (cap : Nat) (l : List (Int × Int)) (hl : l.length ≤ 8796093022208) (hs : ∀ (i : Nat) (h : i < l.length), 0 ≤ l[i].1 ∧ l[i].1 < 80 ∧ 0 ≤ l[i].2 ∧ l[i].2 < 80) (w : World) (hP : PairsAt w p l) :
   Calls Tryz.prog 91 #[.slice p l.length cap] w fun e w' => ∃ (M : Nat) (D : DataW Unit), e = .returned (.map (some M)) ∧ w.heap.size ≤ M ∧ w'.ownsMap Tryz.prog 3 (plainElem Tryz.prog 3) M l.length D ∧ PartIs l D ∧ Below w.heap.size w w' := by
 have hmm := run_makeMap92
 have HS := hide hs
 have HP := hide hP
 clear hs hP
 go_enter Tryz.func91, Tryz.ntmps91
 go_wp2
 go_loopw [11] (fun i wr => ∃ k : Nat, k ≤ l.length ∧ i = .int .i64 k ∧ Below w.heap.size w wr ∧ ∃ D : DataW Unit, wr.ownsMap Tryz.prog 3 (plainElem Tryz.prog 3) w.heap.size k D ∧ Hid (PartIs (l.take k) D)) (fun i _ => l.length - (intOf i).toNat)
 case atStart => exact ⟨0, Nat.zero_le _, rfl, bal (Below.refl _ _) _, .map [], World.ownsMap_made _ _ _ _, partIs_zero⟩
 case round =>
   obtain ⟨k, hk, rfl, hbw, D, hown, hD⟩ := hrel
   by_cases hlt : k < l.length
   · obtain ⟨b, off, rfl, hc⟩ := (HP.out.later hbw) (by omega)
     obtain ⟨c0, c1⟩ := hc k hlt
     have hsk := HS.out k hlt
     have hki : (k : Int) < (l.length : Int) := by omega
     have HST : Hid (PartIs (l.take (k + 1)) (D.put (.int .i64 l[k].1) (.lit (.int .i64 l[k].2)))) := by
       rw [List.take_succ_eq_append_getElem hlt]
       exact hD.out.step hown.isMap _ _
     clear hc hD
     generalize l[k] = pr at *
     obtain ⟨s, y⟩ := pr
     simp only at *
     have hkey : keyOf Tryz.prog 3 (.int .i64 s) = some (.int .i64 s) := keyOf_int_mk Tryz.underlying3 (WalkArith.wf_i64 (by omega))
     have hlw := hown.lt
     go_wp2_with (at_mapUpdate; refine wpList_mapUpdate_own _ rfl _ _ _ 127 rfl 3 3 law3 Tryz.underlying127 _ w.heap.size k _ rfl (hown.alloc _) (by unfold maxLen; omega) _ _ _ rfl rfl hkey _ [] (plainElem_int Tryz.underlying3 (WalkArith.wf_i64 (by omega))) ?_; intro w1 hown1 hgrow1)
     have HO1 := hide hown1
     have hbn : Below w.heap.size w w1 := (bal hbw _).grown hgrow1 (by simp; omega) (fun j hj => by cases hj; exact Nat.le_refl _)
     clear hown1 hgrow1 hown hbw
     go_roundw
     case rel => exact ⟨k + 1, by omega, by go_num, hbn, _, HO1.out, HST⟩
     case measure => simp [intOf]; omega
   · obtain rfl : k = l.length := by omega
     rw [List.take_length] at hD
     go_wp2
     go_ret
     exact ⟨w.heap.size, D, rfl, Nat.le_refl _, hown, hD.out, hbw⟩
end Go.Proofs.YtjhkecnnhddhbaaGreatDoor.Ev

namespace Go.Proofs.YtjhkecnnhddhbaaGreatDoor.Ev
open Go.RowKit Go.Maps
set_option maxRecDepth 100000
theorem sel_in {f : Nat → Bool} {n k : Nat} (h : k < (sel f n).length) : 0 ≤ (sel f n)[k] ∧ (sel f n)[k] < n := sel_bd h
def nextsL (xs : List (Int × Int)) (l : List Int) (k : Nat) : List Int := (l.take k).map (lastV xs)
theorem nextsL_succ (xs : List (Int × Int)) (l : List Int) (k : Nat) (h : k < l.length) : nextsL xs l (k + 1) = nextsL xs l k ++ [lastV xs l[k]] := by
 unfold nextsL
 rw [List.take_succ_eq_append_getElem h, List.map_append]
 rfl
theorem nextsL_len (xs : List (Int × Int)) (l : List Int) (k : Nat) (h : k ≤ l.length) : (nextsL xs l k).length = k := by simp [nextsL]; omega
set_option maxHeartbeats 4000000 in
theorem nextOnes_any (a0 a1 a2 a3 a4 : Option Addr) (c0 c1 c2 c3 c4 l1 l3 l4 : Nat) (ns : List Nd) (xs : List (Int × Int)) (hl : ns.length ≤ 80) (hlx : xs.length ≤ 8796093022208) (hs : ∀ (i : Nat) (h : i < xs.length), 0 ≤ xs[i].1 ∧ xs[i].1 < 80 ∧ 0 ≤ xs[i].2 ∧ xs[i].2 < 80) (w : World) (hN : NodesAt w a0 ns) (hX : PairsAt w a2 xs) :
   Calls Tryz.prog 78 #[Mv.val ⟨a0, c0, a1, l1, c1, a2, xs.length, c2, a3, l3, c3, a4, l4, c4⟩ ns.length] w fun e w' => ∃ p cap, e = .returned (.slice p ((sel (isK ns 3) ns.length).map (lastV xs)).length cap) ∧ IntsAt w' p ((sel (isK ns 3) ns.length).map (lastV xs)) ∧ Below w.heap.size w w' := by
 have hB0 : Below w.heap.size w (w.alloc (.cells (Mv.cells ⟨a0, c0, a1, l1, c1, a2, xs.length, c2, a3, l3, c3, a4, l4, c4⟩ ns.length) 65)) := bal (Below.refl _ _) _
 have HP := hide (partners_any a2 c2 xs hlx hs _ (hX.later hB0))
 have HN := hide hN
 have HSL := hide (sel_len (isK ns 3) ns.length)
 have HBD := hide (fun k (h : k < (sel (isK ns 3) ns.length).length) => sel_in h)
 have HOK := hide (fun (w' : World) (hb : Below w.heap.size w w') => ofKind_any a0 c0 ns (by omega) 3 w' (hN.later hb))
 generalize sel (isK ns 3) ns.length = l at *
 have hll := HSL.out
 generalize hR : l.map (lastV xs) = R at *
 have HRQ := hide hR
 clear hN hX hs HSL hR
 go_enter Tryz.func78, Tryz.ntmps78
 go_wp2_with fail
 refine HP.out.mono ?_
 rintro e w1 ⟨M, D, rfl, _, hown, hD, hb1⟩
 have q0 := cell_later hb1 (a := ⟨w.heap.size, 0, none⟩) (v := .slice a0 ns.length c0) (by simp [go_sem])
 have HB1 := hide (bthen hB0 hb1)
 have HD := hide hD
 have HO := hide hown
 clear hb1 hB0 hown hD
 go_wp2_with fail
 refine (HOK.out _ HB1.out).mono ?_
 rintro e w2 ⟨p2, cap2, rfl, hI2, hb2⟩
 have HO2 := hide (Go.Proofs.YtjhkecnnhddhbaaGreatDoor.map_below HO.out hb2)
 have HB2 := hide (bthen HB1.out hb2)
 have HI2 := hide hI2
 clear hb2 hI2 HO HB1 q0
 clear HP HN
 go_wp2
 go_loopw [4, 14] (fun v i wr => ∃ k : Nat, k ≤ l.length ∧ i = .int .i64 k ∧ wr.ownsRow w2.heap.size 3 1 v (nextsL xs l k).length ((nextsL xs l k).map (Value.int .i64)) ∧ Below w2.heap.size w2 wr) (fun _ i _ => l.length - (intOf i).toNat)
 case atStart => exact ⟨0, Nat.zero_le _, rfl, World.ownsRow_nil _ _ _ _, Below.refl _ _⟩
 case round =>
   obtain ⟨k, hk, rfl, hown, hbw⟩ := hrel
   have hszw := hbw.size
   by_cases hlt : k < l.length
   · obtain ⟨b, off, rfl, hc⟩ := (HI2.out.later hbw) (by omega)
     have hck := hc k hlt
     have hki : (k : Int) < (l.length : Int) := by omega
     have hbd := HBD.out k hlt
     have HS := hide (nextsL_succ xs l k hlt)
     have HLN := hide (nextsL_len xs l k hk)
     have HOM := hide (Go.Proofs.YtjhkecnnhddhbaaGreatDoor.map_below HO2.out hbw)
     have HOW := hide hown
     have HBW := hide hbw
     clear hc hown hbw
     generalize l[k] = x at *
     have hkey : keyOf Tryz.prog 3 (.int .i64 x) = some (.int .i64 x) := keyOf_int_mk Tryz.underlying3 (WalkArith.wf_i64 (by omega))
     have HAT := hide (HD.out.at' x)
     generalize nextsL xs l k = us at *
     generalize lastV xs x = y at *
     go_wp2_with (first
       | (at_lookup; refine wpList_lookup_own_int _ rfl _ _ 127 rfl 3 3 .i64 law3 Tryz.underlying127 Tryz.underlying3 (zero3 _) M xs.length D rfl HOM.out _ _ rfl hkey ?_; intro c hat hwc; have hcy : c = y := lit_inj (hat.symm.trans HAT.out); subst hcy; clear hat hwc)
       | (at_builtin; refine Go.Proofs.YtjhkecnnhddhbaaGreatDoor.wpList_append_ints rfl _ _ rfl w2.heap.size _ us [c] rfl (HOW.out.alloc _) _ _ rfl (Go.Proofs.YtjhkecnnhddhbaaGreatDoor.ints_one c) (fun h => by cases h) (by simp; rw [HLN.out]; omega) (by simp; omega) ?_))
     intro v' w6 hown6 hg6
     have HB6 := hide ((bal HBW.out _).grown hg6 (by simp; omega) (fun j hj => (HOW.out.lt j hj).1))
     have hown7 : w6.ownsRow w2.heap.size 3 1 v' (nextsL xs l (k + 1)).length ((nextsL xs l (k + 1)).map (Value.int .i64)) := by rw [HS.out]; simpa using hown6
     clear hown6 hg6
     go_wp2
     go_roundw
     case rel => exact ⟨k + 1, by omega, by go_num, hown7, HB6.out⟩
     case measure => simp [intOf]; omega
   · obtain rfl : k = l.length := by omega
     have hki : ¬ (l.length : Int) < (l.length : Int) := by omega
     have hall : nextsL xs l l.length = R := by rw [← HRQ.out]; simp [nextsL]
     rw [hall] at hown
     obtain ⟨pv, cv, rfl, hiv, _⟩ := Go.Proofs.YtjhkecnnhddhbaaGreatDoor.owns_ints hown
     have HIV := hide hiv
     have HBW := hide (bthen HB2.out hbw)
     clear hall hown hiv hbw
     go_wp2
     go_ret
     exact ⟨pv, ⟨cv, rfl⟩, HIV.out, HBW.out⟩
end Go.Proofs.YtjhkecnnhddhbaaGreatDoor.Ev

namespace Go.Proofs.YtjhkecnnhddhbaaGreatDoor.Ev
open Go.RowKit
set_option maxRecDepth 100000
end Go.Proofs.YtjhkecnnhddhbaaGreatDoor.Ev

namespace Go.Proofs.YtjhkecnnhddhbaaGreatDoor.Ev
open Go.RowKit
set_option maxRecDepth 100000
theorem two_mono (i j : Int) (h0 : 0 ≤ i) (h : i ≤ j) : two i ≤ two j := by
 obtain ⟨x, rfl⟩ := Int.eq_ofNat_of_zero_le h0
 obtain ⟨y, rfl⟩ := Int.eq_ofNat_of_zero_le (show 0 ≤ j from by omega)
 exact two_le x y (by omega)
end Go.Proofs.YtjhkecnnhddhbaaGreatDoor.Ev

namespace Go.Proofs.YtjhkecnnhddhbaaGreatDoor.Ev
open Go.RowKit
set_option maxRecDepth 100000
end Go.Proofs.YtjhkecnnhddhbaaGreatDoor.Ev

namespace Go.Proofs.YtjhkecnnhddhbaaGreatDoor.Ev
open Go.RowKit
set_option maxRecDepth 100000
end Go.Proofs.YtjhkecnnhddhbaaGreatDoor.Ev

namespace Go.Proofs.YtjhkecnnhddhbaaGreatDoor.Ev
open Go.RowKit
set_option maxRecDepth 100000
def firstE (f : Int × Int → Int) : List (Int × Int) → Int
 | [] => 0
 | p :: l => if f p ≠ 0 then f p else firstE f l
theorem firstE_hit (f : Int × Int → Int) (l : List (Int × Int)) (k : Nat) (hk : k < l.length) (h : ∀ i (hi : i < l.length), i < k → f l[i] = 0) (hf : f l[k] ≠ 0) : firstE f l = f l[k] := by
 induction l generalizing k with
 | nil => simp at hk
 | cons a l ih =>
   cases k with
   | zero =>
     simp only [List.getElem_cons_zero] at hf ⊢
     simp only [firstE]
     rw [if_pos hf]
   | succ k =>
     have h0 := h 0 (by simp) (by omega)
     simp only [List.getElem_cons_zero] at h0
     simp only [firstE]
     rw [if_neg (by simp [h0])]
     exact ih k (by simpa using hk) (fun i hi hik => by have := h (i + 1) (by simpa using hi) (by omega); simpa using this) (by simpa using hf)
theorem firstE_miss (f : Int × Int → Int) (l : List (Int × Int)) (h : ∀ i (hi : i < l.length), f l[i] = 0) : firstE f l = 0 := by
 induction l with
 | nil => rfl
 | cons a l ih =>
   have h0 := h 0 (by simp)
   simp only [List.getElem_cons_zero] at h0
   simp only [firstE]
   rw [if_neg (by simp [h0])]
   exact ih (fun i hi => by have := h (i + 1) (by simpa using hi); simpa using this)
def initE (ns : List Nd) (p : Int × Int) : Int := if pairE ns p.1 p.2 ≠ 0 then pairE ns p.1 p.2 else if (hgs ns ns.length).getD p.2.toNat false then 4 else 0
def nextE (ns : List Nd) (p : Int × Int) : Int := pairE ns p.1 p.2
def pairsE (ns : List Nd) (is xs : List (Int × Int)) : Int :=
 if firstE (initE ns) is ≠ 0 then firstE (initE ns) is else if firstE (nextE ns) xs ≠ 0 then firstE (nextE ns) xs else if dup (fsts is) || dup (fsts xs) then 6 else 0
theorem pairE_zero {ns : List Nd} {s x : Int} (h : pairE ns s x = 0) : (0 ≤ s ∧ s < ns.length) ∧ (0 ≤ x ∧ x < ns.length) ∧ kdOf ns s = 3 ∧ wdOf ns s = wdOf ns x := by
 unfold pairE at h
 by_cases h1 : isN ns.length s = false ∨ kdOf ns s ≠ 3 ∨ isN ns.length x = false
 · rw [if_pos h1] at h; omega
 rw [if_neg h1] at h
 by_cases h2 : wdOf ns s ≠ wdOf ns x
 · rw [if_pos h2] at h; omega
 refine ⟨isN_true.1 ?_, isN_true.1 ?_, ?_, ?_⟩
 · cases hh : isN ns.length s
   · exact absurd (Or.inl hh) h1
   · rfl
 · cases hh : isN ns.length x
   · exact absurd (Or.inr (Or.inr hh)) h1
   · rfl
 · exact Classical.byContradiction fun hh => h1 (Or.inr (Or.inl hh))
 · exact Classical.byContradiction fun hh => h2 hh
theorem init_zero {ns : List Nd} {p : Int × Int} (h : initE ns p = 0) : pairE ns p.1 p.2 = 0 := by
 unfold initE at h
 by_cases hp : pairE ns p.1 p.2 = 0
 · exact hp
 · rw [if_pos hp] at h; exact h
theorem step_zero {f : Int × Int → Int} {l : List (Int × Int)} {k : Nat} (h : ∀ i (hi : i < l.length), i < k → f l[i] = 0) (hk : k < l.length) (hf : f l[k] = 0) : ∀ i (hi : i < l.length), i < k + 1 → f l[i] = 0 := by
 intro i hi hik
 rcases Nat.lt_succ_iff_lt_or_eq.1 hik with h1 | rfl
 · exact h i hi h1
 · exact hf
def Box (w : World) (B : Nat) (m : Mv) (l0 : Nat) : Prop :=
 w.cell? ⟨B, 0, none⟩ = some (.slice m.a0 l0 m.c0) ∧ w.cell? ⟨B, 1, none⟩ = some (.slice m.a1 m.l1 m.c1) ∧ w.cell? ⟨B, 2, none⟩ = some (.slice m.a2 m.l2 m.c2) ∧ w.cell? ⟨B, 3, none⟩ = some (.slice m.a3 m.l3 m.c3) ∧ w.cell? ⟨B, 4, none⟩ = some (.slice m.a4 m.l4 m.c4)
theorem Box.later {w w1 : World} {B : Nat} {m : Mv} {l0 : Nat} (h : Box w B m l0) (hb : Below w.heap.size w w1) : Box w1 B m l0 :=
 ⟨cell_later hb h.1, cell_later hb h.2.1, cell_later hb h.2.2.1, cell_later hb h.2.2.2.1, cell_later hb h.2.2.2.2⟩
theorem Box.new (w : World) (m : Mv) (l0 : Nat) : Box (w.alloc (.cells (m.cells l0) 65)) w.heap.size m l0 := by
 unfold Box
 refine ⟨?_, ?_, ?_, ?_, ?_⟩ <;> simp [go_sem]
theorem past1 {w : World} {p : Addr} {v : Value} (h : w.cell? p = some v) (o : Obj) : (w.alloc o).cell? p = some v := cell_later (bal (Below.refl _ _) o) h
set_option maxRecDepth 100000 in
set_option maxHeartbeats 2000000 in
theorem checkPairs_any (a0 a1 a2 a3 a4 : Option Addr) (c0 c1 c2 c3 c4 l3 l4 : Nat) (ns : List Nd) (is xs : List (Int × Int)) (hl : ns.length ≤ 80) (hli : is.length ≤ 8796093022208) (hlx : xs.length ≤ 8796093022208) (hO : Ook ns) (w : World)
   (hN : NodesAt w a0 ns) (hI : PairsAt w a1 is) (hX : PairsAt w a2 xs) :
   Calls Tryz.prog 87 #[Mv.val ⟨a0, c0, a1, is.length, c1, a2, xs.length, c2, a3, l3, c3, a4, l4, c4⟩ ns.length] w fun e w' => e = .returned (.int .i64 (pairsE ns is xs)) ∧ Below w.heap.size w w' := by
 have HO := hide (hO)
 have hBx := Box.new w ⟨a0, c0, a1, is.length, c1, a2, xs.length, c2, a3, l3, c3, a4, l4, c4⟩ ns.length
 have HBx := hide (hBx)
 clear hO hBx
 go_enter Tryz.func87, Tryz.ntmps87
 go_wp2_with fail
 have hb0 : Below w.heap.size w (w.alloc (.cells (Mv.cells ⟨a0, c0, a1, is.length, c1, a2, xs.length, c2, a3, l3, c3, a4, l4, c4⟩ ns.length) 65)) := bal (Below.refl _ _) _
 refine (hangs_any a0 c0 ns hl HO.out _ (hN.later hb0)).mono ?_
 rintro e w1 ⟨g, rfl, hR, hb1⟩
 have hbw1 := bthen hb0 hb1
 have hbx1 := Box.later HBx.out hb1
 have HR := hide (hR)
 have HB1 := hide (hbx1)
 have hN1 := hN.later hbw1
 have hI1 := hI.later hbw1
 have hX1 := hX.later hbw1
 have m1 := hbx1.2.1
 simp only at m1
 clear hb0 hb1 HBx hR hN hI hX hbx1
 go_wp2
 go_loopw [16] (fun i wr => ∃ k : Nat, k ≤ is.length ∧ i = .int .i64 k ∧ Below w1.heap.size w1 wr ∧ Hid (∀ i (hi : i < is.length), i < k → initE ns is[i] = 0)) (fun i _ => is.length - (intOf i).toNat)
 case atStart => exact ⟨0, Nat.zero_le _, rfl, Below.refl _ _, fun i hi h => by omega⟩
 case round =>
   obtain ⟨k, hk, rfl, hbw, hz⟩ := hrel
   have hbox := Box.later HB1.out hbw
   simp only [Box] at hbox
   obtain ⟨q0, q1, q2, q3, q4⟩ := hbox
   by_cases hlt : k < is.length
   · obtain ⟨b, off, rfl, hc⟩ := (hI1.later hbw) (by omega)
     obtain ⟨d0, d1⟩ := hc k hlt
     have HH := hide (firstE_hit (initE ns) is k hlt hz.out)
     have HZ := hide (step_zero hz.out hlt)
     clear hc
     generalize is[k] = pr at *
     obtain ⟨s, x⟩ := pr
     simp only at *
     have t0 := past1 q0
     have t1 := past1 q1
     have t2 := past1 q2
     have t3 := past1 q3
     have t4 := past1 q4
     go_wp2_with fail
     refine (checkPair_any ⟨a0, c0, some ⟨b, off, none⟩, is.length, c1, a2, xs.length, c2, a3, l3, c3, a4, l4, c4⟩ ns hl s x _ (hN1.later (bal hbw _))).mono ?_
     rintro e w2 ⟨rfl, hb2⟩
     have hbw2 := bthen (bal hbw _) hb2
     have p1 := cell_later hb2 (a := ⟨wr.heap.size, 1, none⟩) (v := .int .i64 x) (by simp [go_sem])
     clear d0 d1 q0 q1 q2 q3 q4 t0 t1 t2 t3 t4 hb2
     by_cases hp : pairE ns s x = 0
     · have hpz := pairE_zero hp
       have hr := (BRow.later HR.out hbw2) x.toNat (by rw [hgs_len]; omega)
       have hr1 : w2.cell? ⟨g, x.toNat, none⟩ = some (.bool ((hgs ns ns.length).getD x.toNat false)) := by
         rw [hr.1]; simp [List.getD, List.getElem?_eq_getElem (show x.toNat < (hgs ns ns.length).length from by rw [hgs_len]; omega)]
       clear hr
       have hx0 := hpz.2.1
       rw [hp]
       cases hh : (hgs ns ns.length).getD x.toNat false
       · have HZ2 := hide (HZ.out (by unfold initE; simp only; rw [hp, hh]; rfl))
         rw [hh] at hr1
         clear hp hpz hh HH HZ
         go_wp2
         go_roundw
         case rel => exact ⟨k + 1, by omega, by go_num, hbw2, HZ2⟩
         case measure => simp [intOf]; omega
       · have HI : Hid (initE ns (s, x) = 4) := by unfold initE; simp only; rw [hp, hh]; rfl
         have HE : Hid (pairsE ns is xs = 4) := by
           have h1 : firstE (initE ns) is = 4 := by rw [HH.out (by rw [HI.out]; omega), HI.out]
           unfold pairsE; rw [h1]; rfl
         rw [hh] at hr1
         clear hp hpz hh HH HZ
         go_wp2
         go_ret
         exact ⟨ret_int HE.out.symm, bthen hbw1 hbw2⟩
     · have HI : Hid (initE ns (s, x) = pairE ns s x) := by unfold initE; simp only; rw [if_pos hp]; rfl
       have HE : Hid (pairsE ns is xs = pairE ns s x) := by
         have h1 : firstE (initE ns) is = pairE ns s x := by rw [HH.out (by rw [HI.out]; exact hp), HI.out]
         unfold pairsE; rw [h1, if_pos hp]; rfl
       have hp' : (pairE ns s x != 0) = true := by simp [hp]
       clear hp HH HZ
       go_wp2
       go_ret
       exact ⟨ret_int HE.out.symm, bthen hbw1 hbw2⟩
   · have H1 : Hid (firstE (initE ns) is = 0) := firstE_miss _ _ (fun i hi => hz.out i hi (by omega))
     have hzi : Hid (∀ i (hi : i < is.length), initE ns is[i] = 0) := fun i hi => hz.out i hi (by omega)
     clear hz
     go_wp2
     go_loopw [35] (fun i wt => ∃ k : Nat, k ≤ xs.length ∧ i = .int .i64 k ∧ Below wr.heap.size wr wt ∧ Hid (∀ i (hi : i < xs.length), i < k → nextE ns xs[i] = 0)) (fun i _ => xs.length - (intOf i).toNat)
     case atStart => exact ⟨0, Nat.zero_le _, rfl, Below.refl _ _, fun i hi h => by omega⟩
     case round =>
       obtain ⟨k2, hk2, rfl, hbt, hz2⟩ := hrel
       have hbt1 := bthen hbw hbt
       have hbox2 := Box.later HB1.out hbt1
       simp only [Box] at hbox2
       obtain ⟨r0, r1, r2, r3, r4⟩ := hbox2
       clear q0 q1 q2 q3 q4
       by_cases hlt2 : k2 < xs.length
       · obtain ⟨b, off, rfl, hc⟩ := (hX1.later hbt1) (by omega)
         obtain ⟨d0, d1⟩ := hc k2 hlt2
         have HH := hide (firstE_hit (nextE ns) xs k2 hlt2 hz2.out)
         have HZ := hide (step_zero hz2.out hlt2)
         clear hc
         generalize xs[k2] = pr at *
         obtain ⟨s, x⟩ := pr
         simp only at *
         have t0 := past1 r0
         have t1 := past1 r1
         have t2 := past1 r2
         have t3 := past1 r3
         have t4 := past1 r4
         go_wp2_with fail
         refine (checkPair_any ⟨a0, c0, a1, is.length, c1, some ⟨b, off, none⟩, xs.length, c2, a3, l3, c3, a4, l4, c4⟩ ns hl s x _ (hN1.later (bal hbt1 _))).mono ?_
         rintro e w2 ⟨rfl, hb2⟩
         have hbt2 := bthen (bal hbt _) hb2
         have hbt3 := bthen hbw hbt2
         clear d0 d1 r0 r1 r2 r3 r4 t0 t1 t2 t3 t4 hb2
         by_cases hp : pairE ns s x = 0
         · have HZ2 := hide (HZ.out (show nextE ns (s, x) = 0 from hp))
           rw [hp]
           clear hp HH HZ
           go_wp2
           go_roundw
           case rel => exact ⟨k2 + 1, by omega, by go_num, hbt2, HZ2⟩
           case measure => simp [intOf]; omega
         · have HE : Hid (pairsE ns is xs = pairE ns s x) := by
             have h1 : firstE (nextE ns) xs = pairE ns s x := HH.out hp
             unfold pairsE; rw [H1.out, h1, if_neg (by simp), if_pos hp]; rfl
           have hp' : (pairE ns s x != 0) = true := by simp [hp]
           clear hp HH HZ
           go_wp2
           go_ret
           exact ⟨ret_int HE.out.symm, bthen hbw1 hbt3⟩
       · have H2 : Hid (firstE (nextE ns) xs = 0) := firstE_miss _ _ (fun i hi => hz2.out i hi (by omega))
         have HD : Hid (pairsE ns is xs = if dup (fsts is) || dup (fsts xs) then 6 else 0) := by
           unfold pairsE; rw [H1.out, H2.out, if_neg (by simp), if_neg (by simp)]; rfl
         have hsi : Hid (∀ (i : Nat) (h : i < is.length), 0 ≤ is[i].1 ∧ is[i].1 < 80) := fun i hi => by
           have h0 := hzi.out i hi
           have := (pairE_zero (init_zero h0)).1
           omega
         have hsx : Hid (∀ (i : Nat) (h : i < xs.length), 0 ≤ xs[i].1 ∧ xs[i].1 < 80) := fun i hi => by
           have h0 : pairE ns xs[i].1 xs[i].2 = 0 := hz2.out i hi (by omega)
           have := (pairE_zero h0).1
           omega
         clear hz2
         go_wp2_with fail
         refine (twice_any a1 c1 is hli hsi.out _ (hI1.later hbt1)).mono ?_
         rintro e w3 ⟨rfl, hb3⟩
         have s2 := cell_later hb3 r2
         have hbt3 := bthen hbt1 hb3
         clear r0 r1 r2 r3 r4 hb3
         cases hd1 : dup (fsts is)
         · go_wp2_with fail
           refine (twice_any a2 c2 xs hlx hsx.out _ (hX1.later hbt3)).mono ?_
           rintro e w4 ⟨rfl, hb4⟩
           cases hd2 : dup (fsts xs)
           · go_wp2
             go_ret
             exact ⟨ret_int (by rw [HD.out, hd1, hd2]; rfl), bthen hbw1 (bthen hbt3 hb4)⟩
           · go_wp2
             go_ret
             exact ⟨ret_int (by rw [HD.out, hd1, hd2]; rfl), bthen hbw1 (bthen hbt3 hb4)⟩
         · go_wp2
           go_ret
           exact ⟨ret_int (by rw [HD.out, hd1]; rfl), bthen hbw1 hbt3⟩
end Go.Proofs.YtjhkecnnhddhbaaGreatDoor.Ev
