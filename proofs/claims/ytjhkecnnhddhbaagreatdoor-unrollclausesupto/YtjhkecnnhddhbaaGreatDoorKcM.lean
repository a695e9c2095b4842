/- A circuit is checked: the code. -/
import Derived.Test.YtjhkecnnhddhbaaGreatDoorGiM
import Derived.Test.YtjhkecnnhddhbaaGreatDoorGeM
import Derived.Test.YtjhkecnnhddhbaaGreatDoorCaM
import Derived.Test.YtjhkecnnhddhbaaGreatDoorCeM
import Derived.Laws.EntriesVeiled
import Derived.Laws.ResultCell
import Derived.Laws.Rows
namespace Go.Proofs.YtjhkecnnhddhbaaGreatDoor
open Go.RowKit Go.Maps Go.WideMaps
set_option maxRecDepth 100000
structure Sl where
 at' : Option Addr
 ns : List Int
 cap : Nat
abbrev Sl.v (r : Sl) : Value := .slice r.at' r.ns.length r.cap
abbrev circ (ins : Int) (p : Option Addr) (len cap : Nat) (a s : Int) (i n b h : Sl) : Value := .agg #[.int .i64 ins, .slice p len cap, .int .i64 a, .int .i64 s, i.v, n.v, b.v, h.v]
abbrev circC (ins : Int) (p : Option Addr) (len cap : Nat) (a s : Int) (i n b h : Sl) : Array Value := #[.int .i64 ins, .slice p len cap, .int .i64 a, .int .i64 s, i.v, n.v, b.v, h.v]
def badI (e x : Int) : Bool := x != -1 && noLit e x
def cirE (ins : Int) (ps : List (Int × Int)) (a s : Int) (is ns bs hs : List Int) : Int :=
 if chkE ins ps ≠ 0 then chkE ins ps
 else if a < 0 ∨ s < 0 ∨ a + s ≠ ins then 4
 else if (is.length : Int) ≠ s ∨ (ns.length : Int) ≠ s then 1
 else if (is.any (badI (2 * (1 + ins + ps.length))) || ns.any (noLit (2 * (1 + ins + ps.length))) || bs.any (noLit (2 * (1 + ins + ps.length))) || hs.any (noLit (2 * (1 + ins + ps.length)))) = true then 5 else 0
theorem enter25 (args : Array Value) (w : World) : (callFunc 62 args).run Tryz.prog w = .ok (.enter 62 args) w := by kernel_rfl
theorem any_one (f : Int → Bool) (x : Int) : [x].any f = f x := by simp
set_option maxHeartbeats 1000000 in
theorem checkB1_any (x ins : Int) (p : Option Addr) (len cap : Nat) (h0 : 0 ≤ ins) (h1 : ins ≤ 1000) (h2 : len ≤ 1000001) (B : Nat) (w : World) (c0 : w.cell? ⟨B, 0, none⟩ = some (.int .i64 ins)) (c1 : w.cell? ⟨B, 1, none⟩ = some (.slice p len cap)) :
   Calls Tryz.prog 62 #[.int .i64 x, .pointer (some ⟨B, 0, none⟩)] w fun r w' => r = .returned (.bool (badI (2 * (1 + ins + len)) x)) ∧ Below w.heap.size w w' := by
 have HE : Hid (badI (2 * (1 + ins + len)) x = (x != -1 && noLit (2 * (1 + ins + len)) x)) := rfl
 generalize badI (2 * (1 + ins + len)) x = R at *
 by_cases hx : x = -1
 · have HX : Hid (R = false) := by rw [HE.out]; simp [hx, Hid]
   subst hx
   go_enter Tryz.func62, Tryz.ntmps62
   go_wp2
   go_ret
   exact ⟨ret_bool HX.out.symm, Below.refl _ _⟩
 · have hx' : (x != -1) = true := by simpa using hx
   have HX : Hid (R = noLit (2 * (1 + ins + len)) x) := by rw [HE.out, hx']; rfl
   have hb : Below w.heap.size w (w.alloc (.cells #[.int .i64 x] 3)) := bal (Below.refl _ _) _
   have HH := hide (has_any ins p len cap h0 h1 h2 [x] (some ⟨w.heap.size, 0, none⟩) 1 (by simp [maxLen]) _ (ints_one x))
   rw [any_one] at HH
   have HB := hide hb
   clear HE hb
   generalize noLit (2 * (1 + ins + len)) x = Z at *
   go_enter Tryz.func62, Tryz.ntmps62
   go_wp2_with fail
   refine HH.out.mono ?_
   rintro e w1 ⟨rfl, hb1⟩
   have HB1 := hide (bthen HB.out hb1)
   clear hb1
   go_wp2
   go_ret
   exact ⟨ret_bool (by rw [HX.out]), HB1.out⟩
structure CirAt (w : World) (p : Option Addr) (ps : List (Int × Int)) (i n b h : Sl) : Prop where
 g : PairsAt w p ps
 i : IntsAt w i.at' i.ns
 n : IntsAt w n.at' n.ns
 b : IntsAt w b.at' b.ns
 h : IntsAt w h.at' h.ns
theorem CirAt.later {w w1 : World} {p : Option Addr} {ps : List (Int × Int)} {i n b h : Sl} (H : CirAt w p ps i n b h) (hb : Below w.heap.size w w1) : CirAt w1 p ps i n b h := ⟨H.g.later hb, H.i.later hb, H.n.later hb, H.b.later hb, H.h.later hb⟩
set_option maxHeartbeats 8000000 in
theorem checkB_any (ins : Int) (p : Option Addr) (cap : Nat) (ps : List (Int × Int)) (hwf : WfP ps) (hl : ps.length ≤ 8796093022208) (a s : Int) (ha : Wf a) (hs : Wf s) (i n b h : Sl) (hli : i.ns.length ≤ maxLen) (hln : n.ns.length ≤ maxLen) (hlb : b.ns.length ≤ maxLen) (hlh : h.ns.length ≤ maxLen) (w : World) (hC : CirAt w p ps i n b h) :
   Calls Tryz.prog 32 #[circ ins p ps.length cap a s i n b h] w fun e w' => e = .returned (.int .i64 (cirE ins ps a s i.ns n.ns b.ns h.ns)) ∧ Below w.heap.size w w' := by
 have hB0 : Below w.heap.size w (w.alloc (.cells (circC ins p ps.length cap a s i n b h) 27)) := bal (Below.refl _ _) _
 have HC := hide (check_any ins p cap ps hwf hl _ (hC.g.later hB0))
 have HK := hide hC
 unfold maxLen at hli hln hlb hlh
 clear hC hwf
 by_cases hc : chkE ins ps = 0
 · obtain ⟨h0, h1, hlen, _, _⟩ := chk_zero hc
   have HE : Hid (cirE ins ps a s i.ns n.ns b.ns h.ns = if a < 0 ∨ s < 0 ∨ a + s ≠ ins then 4 else if (i.ns.length : Int) ≠ s ∨ (n.ns.length : Int) ≠ s then 1 else if (i.ns.any (badI (2 * (1 + ins + ps.length))) || n.ns.any (noLit (2 * (1 + ins + ps.length))) || b.ns.any (noLit (2 * (1 + ins + ps.length))) || h.ns.any (noLit (2 * (1 + ins + ps.length)))) = true then 5 else 0) := by unfold cirE; rw [if_neg (by simpa using hc)]; rfl
   rw [hc] at HC
   clear hc
   generalize cirE ins ps a s i.ns n.ns b.ns h.ns = R at *
   go_enter Tryz.func32, Tryz.ntmps32
   go_wp2_with fail
   refine HC.out.mono ?_
   rintro e w1 ⟨rfl, hb1⟩
   have HB1 := hide (bthen hB0 hb1)
   have q0 := cell_later hb1 (a := ⟨w.heap.size, 0, none⟩) (v := .int .i64 ins) (by simp [go_sem])
   have q1 := cell_later hb1 (a := ⟨w.heap.size, 1, none⟩) (v := .slice p ps.length cap) (by simp [go_sem])
   have q2 := cell_later hb1 (a := ⟨w.heap.size, 2, none⟩) (v := .int .i64 a) (by simp [go_sem])
   have q3 := cell_later hb1 (a := ⟨w.heap.size, 3, none⟩) (v := .int .i64 s) (by simp [go_sem])
   have q4 := cell_later hb1 (a := ⟨w.heap.size, 4, none⟩) (v := i.v) (by simp [go_sem])
   have q5 := cell_later hb1 (a := ⟨w.heap.size, 5, none⟩) (v := n.v) (by simp [go_sem])
   have q6 := cell_later hb1 (a := ⟨w.heap.size, 6, none⟩) (v := b.v) (by simp [go_sem])
   have q7 := cell_later hb1 (a := ⟨w.heap.size, 7, none⟩) (v := h.v) (by simp [go_sem])
   obtain ⟨ia, il, ic⟩ := i
   obtain ⟨na, nl, nc⟩ := n
   obtain ⟨ba, bl, bc⟩ := b
   obtain ⟨ga, gl, gc⟩ := h
   simp only [Sl.v] at *
   have HW := hide ha
   have HWS := hide hs
   clear hb1 hB0 HC ha hs
   by_cases ha0 : a < 0
   · have HX : Hid (R = 4) := by rw [HE.out, if_pos (Or.inl ha0)]; rfl
     clear HE
     go_wp2
     go_ret
     exact ⟨ret_int HX.out.symm, HB1.out⟩
   · by_cases hs0 : s < 0
     · have HX : Hid (R = 4) := by rw [HE.out, if_pos (Or.inr (Or.inl hs0))]; rfl
       clear HE
       go_wp2
       go_ret
       exact ⟨ret_int HX.out.symm, HB1.out⟩
     · have hw := wrap_id (x := ins - a) (by have := HW.out.2; omega) (by omega)
       by_cases hsum : a + s = ins
       · have hne : (s != ins - a) = false := by simp; omega
         rw [if_neg (by omega)] at HE
         by_cases hi : (il.length : Int) = s
         · by_cases hn : (nl.length : Int) = s
           · rw [if_neg (by omega)] at HE
             have hi' : ((il.length : Int) != s) = false := by simpa using hi
             have hn' : ((nl.length : Int) != s) = false := by simpa using hn
             have HCF := hide (containsFunc_any 62 (.pointer (some ⟨w.heap.size, 0, none⟩)) (badI (2 * (1 + ins + ps.length))) il ia ic w1 (by unfold maxLen; omega) (HK.out.i.later HB1.out) enter25 (fun wq hb j hj => checkB1_any _ ins p ps.length cap h0 h1 (by omega) w.heap.size wq (cell_later hb q0) (cell_later hb q1)))
             have HH := hide (fun (l : List Int) (q : Option Addr) (qc : Nat) (hl : l.length ≤ maxLen) (w' : World) (hI : IntsAt w' q l) => has_any ins p ps.length cap h0 h1 (by omega) l q qc hl w' hI)
             clear hi hn
             cases h3 : il.any (badI (2 * (1 + ins + ps.length)))
             · rw [h3] at HCF HE
               go_wp2_with fail
               refine HCF.out.mono ?_
               rintro e w2 ⟨rfl, hb2⟩
               have p0 := cell_later hb2 q0
               have p1 := cell_later hb2 q1
               have p5 := cell_later hb2 q5
               have p6 := cell_later hb2 q6
               have p7 := cell_later hb2 q7
               have HB2 := hide (bthen HB1.out hb2)
               clear hb2 q0 q1 q2 q3 q4 q5 q6 q7 HB1 h3 HCF
               go_wp2_with fail
               refine (HH.out nl na nc (by unfold maxLen; omega) _ (HK.out.n.later HB2.out)).mono ?_
               rintro e w3 ⟨rfl, hb3⟩
               have q0 := cell_later hb3 p0
               have q1 := cell_later hb3 p1
               have q6 := cell_later hb3 p6
               have q7 := cell_later hb3 p7
               have HB3 := hide (bthen HB2.out hb3)
               clear hb3 p0 p1 p5 p6 p7 HB2
               cases h4 : nl.any (noLit (2 * (1 + ins + ps.length)))
               · rw [h4] at HE
                 clear h4
                 go_wp2_with fail
                 refine (HH.out bl ba bc (by unfold maxLen; omega) _ (HK.out.b.later HB3.out)).mono ?_
                 rintro e w4 ⟨rfl, hb4⟩
                 have p0 := cell_later hb4 q0
                 have p1 := cell_later hb4 q1
                 have p7 := cell_later hb4 q7
                 have HB4 := hide (bthen HB3.out hb4)
                 clear hb4 q0 q1 q6 q7 HB3
                 cases h5 : bl.any (noLit (2 * (1 + ins + ps.length)))
                 · rw [h5] at HE
                   clear h5
                   go_wp2_with fail
                   refine (HH.out gl ga gc (by unfold maxLen; omega) _ (HK.out.h.later HB4.out)).mono ?_
                   rintro e w5 ⟨rfl, hb5⟩
                   have HB5 := hide (bthen HB4.out hb5)
                   clear hb5 p0 p1 p7 HB4
                   cases h6 : gl.any (noLit (2 * (1 + ins + ps.length)))
                   · have HX : Hid (R = 0) := by rw [HE.out, h6]; rfl
                     clear HE h6
                     go_wp2
                     go_ret
                     exact ⟨ret_int HX.out.symm, HB5.out⟩
                   · have HX : Hid (R = 5) := by rw [HE.out, h6]; rfl
                     clear HE h6
                     go_wp2
                     go_ret
                     exact ⟨ret_int HX.out.symm, HB5.out⟩
                 · have HX : Hid (R = 5) := by rw [HE.out, h5]; rfl
                   clear HE h5
                   go_wp2
                   go_ret
                   exact ⟨ret_int HX.out.symm, HB4.out⟩
               · have HX : Hid (R = 5) := by rw [HE.out, h4]; rfl
                 clear HE h4
                 go_wp2
                 go_ret
                 exact ⟨ret_int HX.out.symm, HB3.out⟩
             · rw [h3] at HCF
               have HX : Hid (R = 5) := by rw [HE.out, h3]; rfl
               clear HE h3
               go_wp2_with fail
               refine HCF.out.mono ?_
               rintro e w2 ⟨rfl, hb2⟩
               have HB2 := hide (bthen HB1.out hb2)
               clear hb2 HB1
               go_wp2
               go_ret
               exact ⟨ret_int HX.out.symm, HB2.out⟩
           · have HX : Hid (R = 1) := by rw [HE.out, if_pos (Or.inr (by simpa using hn))]; rfl
             have hi' : ((il.length : Int) != s) = false := by simpa using hi
             have hn' : ((nl.length : Int) != s) = true := by simpa using hn
             clear HE hi hn
             go_wp2
             go_ret
             exact ⟨ret_int HX.out.symm, HB1.out⟩
         · have HX : Hid (R = 1) := by rw [HE.out, if_pos (Or.inl (by simpa using hi))]; rfl
           have hi' : ((il.length : Int) != s) = true := by simpa using hi
           clear HE hi
           go_wp2
           go_ret
           exact ⟨ret_int HX.out.symm, HB1.out⟩
       · have HX : Hid (R = 4) := by rw [HE.out, if_pos (Or.inr (Or.inr hsum))]; rfl
         have hne : (s != ins - a) = true := by simp; omega
         clear HE hsum
         go_wp2
         go_ret
         exact ⟨ret_int HX.out.symm, HB1.out⟩
 · have hne : (chkE ins ps != 0) = true := by simpa using hc
   have HE : Hid (cirE ins ps a s i.ns n.ns b.ns h.ns = chkE ins ps) := by unfold cirE; rw [if_pos hc]; rfl
   clear hc
   generalize chkE ins ps = Z at *
   generalize cirE ins ps a s i.ns n.ns b.ns h.ns = R at *
   go_enter Tryz.func32, Tryz.ntmps32
   go_wp2_with fail
   refine HC.out.mono ?_
   rintro e w1 ⟨rfl, hb1⟩
   have HB1 := hide (bthen hB0 hb1)
   clear hb1 hB0 HC
   go_wp2
   go_ret
   exact ⟨ret_int HE.out.symm, HB1.out⟩
end Go.Proofs.YtjhkecnnhddhbaaGreatDoor

namespace Go.Proofs.YtjhkecnnhddhbaaGreatDoor
open Go.RowKit Go.Maps Go.WideMaps
set_option maxRecDepth 100000
structure Ci where
 ins : Int
 p : Option Addr
 ps : List (Int × Int)
 cap : Nat
 a : Int
 s : Int
 i : Sl
 n : Sl
 b : Sl
 h : Sl
abbrev Ci.v (C : Ci) : Value := circ C.ins C.p C.ps.length C.cap C.a C.s C.i C.n C.b C.h
def Ci.f (C : Ci) : Int := C.ins + C.ps.length
structure UnC (w : World) (M : Nat) (C : Ci) (last : Nat) : Prop where
 u2 : w.cell? ⟨M, 2, none⟩ = some (.int .i64 C.ins)
 u3 : w.cell? ⟨M, 3, none⟩ = some (.slice C.p C.ps.length C.cap)
 u4 : w.cell? ⟨M, 4, none⟩ = some (.int .i64 C.a)
 u5 : w.cell? ⟨M, 5, none⟩ = some (.int .i64 C.s)
 u6 : w.cell? ⟨M, 6, none⟩ = some C.i.v
 u7 : w.cell? ⟨M, 7, none⟩ = some C.n.v
 u8 : w.cell? ⟨M, 8, none⟩ = some C.b.v
 u9 : w.cell? ⟨M, 9, none⟩ = some C.h.v
 u10 : w.cell? ⟨M, 10, none⟩ = some (.int .i64 last)
theorem UnC.later {w w1 : World} {M : Nat} {C : Ci} {last : Nat} (h : UnC w M C last) (hb : Below w.heap.size w w1) : UnC w1 M C last :=
 ⟨cell_later hb h.u2, cell_later hb h.u3, cell_later hb h.u4, cell_later hb h.u5, cell_later hb h.u6, cell_later hb h.u7, cell_later hb h.u8, cell_later hb h.u9, cell_later hb h.u10⟩
theorem UnC.kp {w w1 : World} {v v1 : Value} {M : Nat} {C : Ci} {last : Nat} (h : UnC w M C last) (hv : v.ownBlock ≠ some M) (hk : Kp M w v w1 v1) : UnC w1 M C last :=
 have g : ∀ j x, 2 ≤ j → w.cell? ⟨M, j, none⟩ = some x → w1.cell? ⟨M, j, none⟩ = some x := fun j x hj hx => (hk.keep _ x hx (by intro e; cases e; omega) (by intro e; cases e; omega) hv).1
 ⟨g _ _ (by decide) h.u2, g _ _ (by decide) h.u3, g _ _ (by decide) h.u4, g _ _ (by decide) h.u5, g _ _ (by decide) h.u6, g _ _ (by decide) h.u7, g _ _ (by decide) h.u8, g _ _ (by decide) h.u9, g _ _ (by decide) h.u10⟩
def atL (f : Int) (t : Nat) (x : Int) : Int := if x / 2 = 0 then x else x + 2 * (t * f)
def stL (f a : Int) (t i : Nat) : Int := atL f t (2 * (1 + a + i))
def sameC (x y : Int) : List (List Int) := if y = 1 then rootC x else if y = 0 then rootC (turn x) else [[-numL x, numL y], [numL x, -numL y]]
set_option maxHeartbeats 1000000 in
theorem stride_any (ins : Int) (p : Option Addr) (len cap : Nat) (h0 : 0 ≤ ins) (h1 : ins ≤ 1000) (h2 : len ≤ 1000001) (a s v4 v5 v6 v7 : Value) (w : World) :
   Calls Tryz.prog 36 #[.agg #[.int .i64 ins, .slice p len cap, a, s, v4, v5, v6, v7]] w fun e w' => e = .returned (.int .i64 (ins + len)) ∧ Below w.heap.size w w' := by
 have hb : Below w.heap.size w (w.alloc (.cells #[.int .i64 ins, .slice p len cap, a, s, v4, v5, v6, v7] 27)) := bal (Below.refl _ _) _
 have HN := hide (nodes_any ins p len cap h0 h1 h2 (w.alloc (.cells #[.int .i64 ins, .slice p len cap, a, s, v4, v5, v6, v7] 27)))
 have HB := hide hb
 clear hb
 go_enter Tryz.func36, Tryz.ntmps36
 go_wp2_with fail
 refine HN.out.mono ?_
 rintro e w1 ⟨rfl, hb1⟩
 have HB1 := hide (bthen HB.out hb1)
 have ww := wrap_id (x := 1 + ins + len - 1) (by omega) (by omega)
 clear hb1 HN HB
 go_wp2
 go_ret
 exact ⟨ret_int (by omega), HB1.out⟩
set_option maxHeartbeats 2000000 in
theorem at_any (M : Nat) (C : Ci) (last t : Nat) (x : Int) (h0 : 0 ≤ C.ins) (h1 : C.ins ≤ 1000) (h2 : C.ps.length ≤ 1000001) (hx : 0 ≤ x) (hx2 : x ≤ 10000000) (ht0 : 0 ≤ (t : Int) * C.f) (ht : (t : Int) * C.f ≤ 200000) (w : World) (hU : UnC w M C last) :
   Calls Tryz.prog 38 #[.pointer (some ⟨M, 0, none⟩), .int .i64 t, .int .i64 x] w fun e w' => e = .returned (.int .i64 (atL C.f t x)) ∧ Below w.heap.size w w' := by
 have HE : Hid (atL C.f t x = if x / 2 = 0 then x else x + 2 * (t * C.f)) := rfl
 generalize atL C.f t x = R at *
 by_cases hz : x / 2 = 0
 · have HX : Hid (R = x) := by rw [HE.out, if_pos hz]; rfl
   have HN := hide (node_any x hx (by omega) w)
   rw [hz] at HN
   clear HE hU
   go_enter Tryz.func38, Tryz.ntmps38
   go_wp2_with fail
   refine HN.out.mono ?_
   rintro e w1 ⟨rfl, rfl⟩
   go_wp2
   go_ret
   exact ⟨ret_int HX.out.symm, Below.refl _ _⟩
 · have HX : Hid (R = x + 2 * (t * C.f)) := by rw [HE.out, if_neg hz]; rfl
   have HN := hide (node_any x hx (by omega) w)
   have hz' : (x / 2 == 0) = false := by simpa using hz
   obtain ⟨ins, p, ps, cap, a, s, i, n, b, h⟩ := C
   obtain ⟨u2, u3, u4, u5, u6, u7, u8, u9, _⟩ := hU
   simp only [Ci.f] at *
   have HS := hide (stride_any ins p ps.length cap h0 h1 h2 (.int .i64 a) (.int .i64 s) i.v n.v b.v h.v w)
   have ww := wrap_id (x := (t : Int) * (ins + (ps.length : Int))) (by omega) (by omega)
   have wx := wrap_id (x := x + 2 * ((t : Int) * (ins + (ps.length : Int)))) (by omega) (by omega)
   generalize hF : (t : Int) * (ins + (ps.length : Int)) = F at *
   have HL := hide (fun w => literal_any F ht0 (by omega) w)
   clear HE hz
   simp only [Sl.v] at *
   go_enter Tryz.func38, Tryz.ntmps38
   go_wp2_with fail
   refine HN.out.mono ?_
   rintro e w1 ⟨rfl, hw1⟩
   obtain rfl : w = w1 := hw1.symm
   clear hw1 HN
   go_wp2_with fail
   refine HS.out.mono ?_
   rintro e w2 ⟨rfl, hb2⟩
   have HB2 := hide hb2
   clear hb2 HS u2 u3 u4 u5 u6 u7 u8 u9
   go_wp2_with fail
   refine (HL.out _).mono ?_
   rintro e w3 ⟨rfl, hw3⟩
   obtain rfl : w2 = w3 := hw3.symm
   clear hw3
   go_wp2
   go_ret
   exact ⟨ret_int HX.out.symm, HB2.out⟩
end Go.Proofs.YtjhkecnnhddhbaaGreatDoor

namespace Go.Proofs.YtjhkecnnhddhbaaGreatDoor
open Go.RowKit Go.Maps Go.WideMaps
set_option maxRecDepth 100000
set_option maxHeartbeats 2000000 in
theorem state_any (M : Nat) (C : Ci) (last t i : Nat) (h0 : 0 ≤ C.ins) (h1 : C.ins ≤ 1000) (h2 : C.ps.length ≤ 1000001) (ha : 0 ≤ C.a) (ha2 : C.a ≤ 1000) (hi : i ≤ 1000) (ht0 : 0 ≤ (t : Int) * C.f) (ht : (t : Int) * C.f ≤ 200000) (w : World) (hU : UnC w M C last) :
   Calls Tryz.prog 42 #[.pointer (some ⟨M, 0, none⟩), .int .i64 t, .int .i64 i] w fun e w' => e = .returned (.int .i64 (stL C.f C.a t i)) ∧ Below w.heap.size w w' := by
 have HA := hide (at_any M C last t (2 * (1 + C.a + i)) h0 h1 h2 (by omega) (by omega) ht0 ht w hU)
 have HE : Hid (stL C.f C.a t i = atL C.f t (2 * (1 + C.a + i))) := rfl
 have u4 := hU.u4
 have HL := hide (literal_any (1 + C.a + i) (by omega) (by omega) w)
 generalize atL C.f t (2 * (1 + C.a + i)) = R at *
 generalize stL C.f C.a t i = Z at *
 generalize C.a = a at *
 clear hU
 have w1 := wrap_id (x := 1 + a) (by omega) (by omega)
 have w2 := wrap_id (x := 1 + a + (i : Int)) (by omega) (by omega)
 go_enter Tryz.func42, Tryz.ntmps42
 go_wp2_with fail
 refine HL.out.mono ?_
 rintro e w1 ⟨rfl, hw1⟩
 obtain rfl : w = w1 := hw1.symm
 clear hw1
 go_wp2_with fail
 refine HA.out.mono ?_
 rintro e w2 ⟨rfl, hb2⟩
 have HB := hide hb2
 clear hb2 HA HL
 go_wp2
 go_ret
 exact ⟨ret_int HE.out.symm, HB.out⟩
theorem turn_bd {x : Int} (h : 0 ≤ x) : 0 ≤ turn x ∧ turn x ≤ x + 1 := by
 unfold turn
 split
 · rename_i h1
   have : x % 2 = 1 := by simpa [odd] using h1
   omega
 · omega
theorem turn_two {x : Int} (h : 2 ≤ x) : 2 ≤ turn x := by
 unfold turn
 split
 · rename_i h1
   have : x % 2 = 1 := by simpa [odd] using h1
   omega
 · omega
theorem sameC_len {x y : Int} (hx : 2 ≤ x) : (sameC x y).length = (if y = 0 then 0 else 1) + (if y = 1 then 0 else 1) := by
 have hr : ∀ z : Int, 2 ≤ z → (rootC z).length = 1 := fun z hz => by rw [rootC_len, if_neg (by omega)]
 unfold sameC
 by_cases h1 : y = 1
 · subst h1; rw [if_pos rfl, hr x hx]; rfl
 · rw [if_neg h1]
   by_cases h0 : y = 0
   · subst h0; rw [if_pos rfl, hr _ (turn_two hx)]; rfl
   · rw [if_neg h0, if_neg h0, if_neg h1]; rfl
set_option maxHeartbeats 4000000 in
theorem sameM_any (base M : Nat) (v : Value) (vars : Int) (rs : List Row) (hrs : rs.length ≤ 3800000) (x y : Int) (hx : 0 ≤ x) (hx2 : x ≤ 9000000) (hy : 0 ≤ y) (hy2 : y ≤ 9000000) (w : World) (hbs : base ≤ w.heap.size) (hmk : Cm w base M v vars rs) :
   Calls Tryz.prog 41 #[.pointer (some ⟨M, 0, none⟩), .int .i64 x, .int .i64 y] w fun e w' => e = .returned (.tuple #[]) ∧ ∃ v' rs', numsOf rs' = numsOf rs ++ sameC x y ∧ Cm w' base M v' vars rs' ∧ Below base w w' ∧ Kp M w v w' v' := by
 have HMK := hide hmk
 clear hmk
 by_cases h1 : y = 1
 · subst h1
   have HC : Hid (sameC x 1 = rootC x) := rfl
   generalize sameC x 1 = Z at *
   go_enter Tryz.func41, Tryz.ntmps41
   go_wp2_with fail
   refine (rootM_any base M v vars rs (by omega) x hx (by omega) _ hbs HMK.out).mono ?_
   rintro e w2 ⟨rfl, v2, r2, hr2, hmk2, hb2, hk2⟩
   have HR := hide (show ∃ v' rs', numsOf rs' = numsOf rs ++ Z ∧ Cm w2 base M v' vars rs' ∧ Below base w w2 ∧ Kp M w v w2 v' from ⟨v2, r2, by rw [HC.out]; exact hr2, hmk2, hb2, hk2⟩)
   clear hr2 hmk2 hb2 hk2
   go_wp2
   go_end0
   exact ⟨rfl, HR.out⟩
 · by_cases h0 : y = 0
   · subst h0
     have HC : Hid (sameC x 0 = rootC (turn x)) := rfl
     generalize sameC x 0 = Z at *
     have ht := turn_bd hx
     have HT := hide (turn_any x hx (by omega) w)
     generalize turn x = u at *
     go_enter Tryz.func41, Tryz.ntmps41
     go_wp2_with fail
     refine HT.out.mono ?_
     rintro e w1 ⟨rfl, hw1⟩
     obtain rfl : w = w1 := hw1.symm
     clear hw1 HT
     go_wp2_with fail
     refine (rootM_any base M v vars rs (by omega) u ht.1 (by omega) _ hbs HMK.out).mono ?_
     rintro e w2 ⟨rfl, v2, r2, hr2, hmk2, hb2, hk2⟩
     have HR := hide (show ∃ v' rs', numsOf rs' = numsOf rs ++ Z ∧ Cm w2 base M v' vars rs' ∧ Below base w w2 ∧ Kp M w v w2 v' from ⟨v2, r2, by rw [HC.out]; exact hr2, hmk2, hb2, hk2⟩)
     clear hr2 hmk2 hb2 hk2
     go_wp2
     go_end0
     exact ⟨rfl, HR.out⟩
   · have HC : Hid (sameC x y = [[-numL x, numL y], [numL x, -numL y]]) := by unfold sameC; rw [if_neg h1, if_neg h0]; rfl
     have hna := numL_bd hx (by omega)
     have hnb := numL_bd hy (by omega)
     have HN := hide (fun w => number_any x hx (by omega) w)
     have HN2 := hide (fun w => number_any y hy (by omega) w)
     have h1' : (y == 1) = false := by simpa using h1
     have h0' : (y == 0) = false := by simpa using h0
     generalize sameC x y = Z at *
     generalize numL x = a at *
     generalize numL y = b at *
     have wa := wrap_id (x := -a) (by omega) (by omega)
     have wb := wrap_id (x := -b) (by omega) (by omega)
     go_enter Tryz.func41, Tryz.ntmps41
     go_wp2_with fail
     refine (HN.out _).mono ?_
     rintro e w1 ⟨rfl, hw1⟩
     obtain rfl : w = w1 := hw1.symm
     clear hw1
     go_wp2_with fail
     refine (HN2.out _).mono ?_
     rintro e w1 ⟨rfl, hw1⟩
     obtain rfl : w = w1 := hw1.symm
     clear hw1
     go_wp2_with fail
     refine (addC_any base M v vars rs (by omega) [-a, b] (by simp) (some ⟨w.heap.size, 0, none⟩) 2 _ (by simp; omega) (HMK.out.below (bal (Below.refl _ _) _)) (ints_two (-a) b)).mono ?_
     rintro e w2 ⟨rfl, v2, r2, hr2, hmk2, hb2, hk2⟩
     have HMK2 := hide hmk2
     have hs2 : base ≤ w2.heap.size := by have := hb2.size; simp at this; omega
     have HB2 := hide (((Below.refl _ w).alloc hbs _).trans hb2)
     have HK2 := hide ((Kp.later (M := M) (v := v) (bal (Below.refl _ w) _)).trans hk2)
     have HR2 := hide hr2
     clear hmk2 hb2 hk2 hr2 HMK
     go_wp2_with fail
     refine (HN.out _).mono ?_
     rintro e w1 ⟨rfl, hw1⟩
     obtain rfl : w2 = w1 := hw1.symm
     clear hw1
     go_wp2_with fail
     refine (HN2.out _).mono ?_
     rintro e w1 ⟨rfl, hw1⟩
     obtain rfl : w2 = w1 := hw1.symm
     clear hw1
     go_wp2_with fail
     refine (addC_any base M v2 vars (rs ++ [r2]) (by simp; omega) [a, -b] (by simp) (some ⟨w2.heap.size, 0, none⟩) 2 _ (by simp; omega) (HMK2.out.below (bal (Below.refl _ _) _)) (ints_two a (-b))).mono ?_
     rintro e w3 ⟨rfl, v3, r3, hr3, hmk3, hb3, hk3⟩
     have HR := hide (show ∃ v' rs', numsOf rs' = numsOf rs ++ Z ∧ Cm w3 base M v' vars rs' ∧ Below base w w3 ∧ Kp M w v w3 v' from ⟨v3, _, by rw [numsOf_app, numsOf_app, HR2.out, hr3, HC.out]; simp, hmk3, (HB2.out.alloc hs2 _).trans hb3, (HK2.out.trans (Kp.later (bal (Below.refl _ _) _))).trans hk3⟩)
     clear hr3 hmk3 hb3 hk3
     go_wp2
     go_end0
     exact ⟨rfl, HR.out⟩
end Go.Proofs.YtjhkecnnhddhbaaGreatDoor

namespace Go.Proofs.YtjhkecnnhddhbaaGreatDoor
open Go.RowKit Go.Maps Go.WideMaps
set_option maxRecDepth 100000
structure Un (w0 w : World) (M : Nat) (v : Value) (vars : Int) (rs : List Row) (C : Ci) (last : Nat) : Prop where
 cm : Cm w w0.heap.size M v vars rs
 un : UnC w M C last
 bl : Below w0.heap.size w0 w
theorem Un.later {w0 w w1 : World} {M : Nat} {v : Value} {vars : Int} {rs : List Row} {C : Ci} {last : Nat} (h : Un w0 w M v vars rs C last) (hb : Below w.heap.size w w1) : Un w0 w1 M v vars rs C last :=
 ⟨h.cm.below hb, h.un.later hb, h.bl.trans (hb.mono h.bl.size)⟩
theorem Un.next {w0 w w1 : World} {M : Nat} {v v1 : Value} {vars vars1 : Int} {rs rs1 : List Row} {C : Ci} {last : Nat} (h : Un w0 w M v vars rs C last) (hc : Cm w1 w0.heap.size M v1 vars1 rs1) (hb : Below w0.heap.size w w1) (hk : Kp M w v w1 v1) : Un w0 w1 M v1 vars1 rs1 C last :=
 ⟨hc, h.un.kp h.cm.nv hk, h.bl.trans hb⟩
def Bxs (w : World) (v : Value) (M : Nat) (L : List (Addr × Value)) : Prop := ∀ q x, (q, x) ∈ L → w.cell? q = some x ∧ q.block ≠ M ∧ v.ownBlock ≠ some q.block
theorem Bxs.kp {w w1 : World} {v v1 : Value} {M : Nat} {L : List (Addr × Value)} (h : Bxs w v M L) (hk : Kp M w v w1 v1) : Bxs w1 v1 M L := fun q x hq => by
 obtain ⟨h1, h2, h3⟩ := h q x hq
 obtain ⟨h4, h5⟩ := hk.keep q x h1 (fun e => h2 (by rw [e])) (fun e => h2 (by rw [e])) h3
 exact ⟨h4, h2, h5⟩
theorem Bxs.later {w w1 : World} {v : Value} {M : Nat} {L : List (Addr × Value)} (h : Bxs w v M L) (hb : Below w.heap.size w w1) : Bxs w1 v M L := fun q x hq => ⟨cell_later hb (h q x hq).1, (h q x hq).2⟩
def MkOut (w0 w : World) (M : Nat) (v : Value) (vars : Int) (rs : List Row) (L : List (List Int)) (C : Ci) (last : Nat) (e : Ending) (w' : World) : Prop :=
 e = .returned (.tuple #[]) ∧ ∃ v' rs', numsOf rs' = numsOf rs ++ L ∧ Un w0 w' M v' vars rs' C last ∧ Kp M w v w' v'
structure Prt where
 vs : Int
 cs : Int
 fn : FuncId
 caps : Array Value
 bx : List (Addr × Value)
 L : List (List Int)
 need : Option Int
abbrev Prt.v (p : Prt) : Value := .agg #[.int .i64 p.vs, .int .i64 p.cs, .func (.func p.fn) #[] p.caps]
def Makes (w0 : World) (M : Nat) (C : Ci) (last : Nat) (p : Prt) : Prop := ∀ w v vars rs, Un w0 w M v vars rs C last → Bxs w v M p.bx → rs.length + p.L.length ≤ 800000 → 0 ≤ vars → vars + p.vs ≤ 200000 → (∀ x, p.need = some x → vars = x) → Calls Tryz.prog p.fn p.caps w (MkOut w0 w M v (vars + p.vs) rs p.L C last)
def stepsL (f : Nat → List (List Int)) (k : Nat) : List (List Int) := (List.range k).flatMap f
theorem stepsL_succ (f : Nat → List (List Int)) (k : Nat) : stepsL f (k + 1) = stepsL f k ++ f k := by simp [stepsL, List.range_succ]
theorem stepsL_mono (f : Nat → List (List Int)) {k n : Nat} (h : k ≤ n) : (stepsL f k).length ≤ (stepsL f n).length := by
 induction n with
 | zero => obtain rfl : k = 0 := by omega
           exact Nat.le_refl _
 | succ n ih =>
   by_cases e : k = n + 1
   · subst e; exact Nat.le_refl _
   · have := ih (by omega)
     rw [stepsL_succ, List.length_append]
     omega
theorem numsOf_lenE {rs : List Row} {L : List (List Int)} (h : numsOf rs = L) : rs.length = L.length := by rw [← h, numsOf_len]
set_option maxHeartbeats 4000000 in
theorem eachMake_any (w0 : World) (M : Nat) (C : Ci) (last : Nat) (fn : FuncId) (c1 c2 : Value) (bx : List (Addr × Value)) (f : Nat → List (List Int)) (dv : Int) (hdv : 0 ≤ dv) (S A : Nat) (n : Nat) (hn : n ≤ 41) (vs cs : Int) (hvs : vs = n * dv)
   (hent : ∀ (args : Array Value) (w : World), (callFunc fn args).run Tryz.prog w = .ok (.enter fn args) w)
   (hst : ∀ t, t < n → ∀ w v vars rs, Un w0 w M v vars rs C last → Bxs w v M bx → rs.length + (f t).length ≤ 800000 → 0 ≤ vars → vars + dv ≤ 200000 → Calls Tryz.prog fn #[.int .i64 t, c1, c2] w (MkOut w0 w M v (vars + dv) rs (f t) C last)) :
   Makes w0 M C last ⟨vs, cs, 65, #[.pointer (some ⟨S, 0, none⟩), .pointer (some ⟨A, 0, none⟩)], (⟨S, 0, none⟩, .int .i64 n) :: (⟨A, 0, none⟩, .func (.func fn) #[] #[c1, c2]) :: bx, stepsL f n, none⟩ := by
 subst hvs
 intro w v vars rs hU hB hl hv0 hv _
 simp only at hB hl hv ⊢
 have s0 := (hB _ _ (List.mem_cons_self ..)).1
 have HB := hide hB
 have HU := hide hU
 have HST := hide hst
 have HL : Hid (∀ k, k ≤ n → (stepsL f k).length ≤ (stepsL f n).length) := fun k hk => stepsL_mono f hk
 clear hB hU hst
 generalize hZ : stepsL f n = Z at *
 go_enter Tryz.func65, Tryz.ntmps65
 go_wp2
 go_loopw [4] (fun i wr => ∃ k : Nat, k ≤ n ∧ i = .int .i64 k ∧ Hid (∃ v' rs', numsOf rs' = numsOf rs ++ stepsL f k ∧ Un w0 wr M v' (vars + k * dv) rs' C last ∧ Kp M w v wr v')) (fun i _ => n - (intOf i).toNat)
 case atStart => exact ⟨0, Nat.zero_le _, rfl, v, rs, by simp [stepsL], by simpa using HU.out, Kp.refl _ _ _⟩
 case round =>
   obtain ⟨k, hk, rfl, HR⟩ := hrel
   obtain ⟨v1, rs1, hn1, hU1, hk1⟩ := HR.out
   by_cases hlt : k < n
   · have hki : (k : Int) < (n : Int) := by omega
     have hB1 := HB.out.kp hk1
     have a1 := (hB1 _ _ (List.mem_cons_of_mem _ (List.mem_cons_self ..))).1
     have hlen1 := numsOf_lenE hn1
     have hle := HL.out (k + 1) (by omega)
     rw [stepsL_succ, List.length_append] at hle
     rw [List.length_append, numsOf_len] at hlen1
     have hm1 : 0 ≤ (k : Int) * dv := Int.mul_nonneg (by omega) hdv
     have hm2 : ((k : Int) + 1) * dv ≤ (n : Int) * dv := Int.mul_le_mul_of_nonneg_right (by omega) hdv
     have hm3 : ((k : Int) + 1) * dv = k * dv + dv := by rw [Int.add_mul]; omega
     have HC := hide (HST.out k hlt wr v1 (vars + k * dv) rs1 hU1 (fun q x hq => hB1 q x (List.mem_cons_of_mem _ (List.mem_cons_of_mem _ hq))) (by omega) (by omega) (by omega))
     have HN1 := hide hn1
     have HK1 := hide hk1
     have HV : Hid (vars + (k : Int) * dv + dv = vars + ((k + 1 : Nat) : Int) * dv) := by unfold Hid; rw [Int.natCast_add, Int.natCast_one, hm3]; omega
     clear hn1 hU1 hk1 hB1 hlen1 hle hm1 hm2 hm3 HR
     go_wp2_with fail
     refine HC.out.mono ?_
     rintro e w2 ⟨rfl, v2, rs2, hn2, hU2, hk2⟩
     rw [HV.out] at hU2
     have HR2 := hide (show ∃ v' rs', numsOf rs' = numsOf rs ++ stepsL f (k + 1) ∧ Un w0 w2 M v' (vars + ((k + 1 : Nat) : Int) * dv) rs' C last ∧ Kp M w v w2 v' from ⟨v2, rs2, by rw [hn2, HN1.out, stepsL_succ, List.append_assoc], hU2, HK1.out.trans hk2⟩)
     clear hn2 hU2 hk2 HV HC
     go_wp2
     go_roundw
     case rel => exact ⟨k + 1, by omega, by go_num, HR2⟩
     case measure => simp [intOf]; omega
   · obtain rfl : k = n := by omega
     have HE := hide (show MkOut w0 w M v (vars + k * dv) rs Z C last (.returned (.tuple #[])) wr from ⟨rfl, v1, rs1, by rw [hn1, hZ], hU1, hk1⟩)
     clear hn1 hU1 hk1
     go_wp2
     go_end0
     exact HE.out
theorem alloc_at {w : World} {o : Obj} {n : Nat} (h : w.heap.size = n) : (w.alloc o).heap[n]? = some o := by rw [← h]; exact (MapKept.heap_alloc w o).1
set_option maxHeartbeats 4000000 in
theorem eachStep_any (n : Nat) (hn : n ≤ 41) (c : Nat) (hc : c ≤ 100000000000) (fn : FuncId) (c1 c2 : Value) (w : World) :
   Calls Tryz.prog 34 #[.int .i64 n, .int .i64 c, .func (.func fn) #[] #[c1, c2]] w fun e w' => e = .returned (.agg #[.int .i64 0, .int .i64 (n * c : Nat), .func (.func 65) #[] #[.pointer (some ⟨w.heap.size, 0, none⟩), .pointer (some ⟨w.heap.size + 1, 0, none⟩)]]) ∧
     w'.cell? ⟨w.heap.size, 0, none⟩ = some (.int .i64 n) ∧ w'.cell? ⟨w.heap.size + 1, 0, none⟩ = some (.func (.func fn) #[] #[c1, c2]) ∧ Below w.heap.size w w' := by
 have hm : (n : Int) * (c : Int) ≤ 41 * 100000000000 := Int.mul_le_mul (by omega) (by omega) (by omega) (by omega)
 have hm0 : 0 ≤ (n : Int) * (c : Int) := Int.mul_nonneg (by omega) (by omega)
 have ww := wrap_id (x := (n : Int) * (c : Int)) (by omega) (by omega)
 have HE : Hid (((n * c : Nat) : Int) = (n : Int) * (c : Int)) := Int.natCast_mul _ _
 clear hm hm0
 generalize ((n * c : Nat) : Int) = Z at *
 go_enter Tryz.func34, Tryz.ntmps34
 go_wp2
 refine bodyPost_ret (results_cell_row rfl _ _ (w.heap.size + 1 + 1) 45 _ _ _ rfl (alloc_at (by simp)) Tryz.underlying45 rfl (by kernel_rfl)) rfl ?_
 refine ⟨by rw [HE.out], by simp [go_sem], by simp [go_sem], bal (bal (bal (Below.refl _ _) _) _) _⟩
end Go.Proofs.YtjhkecnnhddhbaaGreatDoor
