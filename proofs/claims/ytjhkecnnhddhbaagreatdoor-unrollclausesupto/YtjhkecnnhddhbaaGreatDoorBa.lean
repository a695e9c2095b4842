/- A circuit is checked: the code. -/
import Derived.Test.YtjhkecnnhddhbaaGreatDoorGh
import Derived.Test.YtjhkecnnhddhbaaGreatDoorGe
import Derived.Test.YtjhkecnnhddhbaaGreatDoorGt
namespace Go.Proofs.YtjhkecnnhddhbaaGreatDoor
open Go.RowKit Go.Maps Go.WideMaps
set_option maxRecDepth 100000
set_option maxRecDepth 100000

/-- A list in memory: where it lies, its numbers, its capacity. -/
structure Sl where
  at' : Option Addr
  ns : List Int
  cap : Nat
abbrev Sl.v (r : Sl) : Value := .slice r.at' r.ns.length r.cap
/-- A circuit's value. -/
abbrev circ (ins : Int) (p : Option Addr) (len cap : Nat) (a s : Int) (i n b h : Sl) : Value := .agg #[.int .i64 ins, .slice p len cap, .int .i64 a, .int .i64 s, i.v, n.v, b.v, h.v]
abbrev circC (ins : Int) (p : Option Addr) (len cap : Nat) (a s : Int) (i n b h : Sl) : Array Value := #[.int .i64 ins, .slice p len cap, .int .i64 a, .int .i64 s, i.v, n.v, b.v, h.v]

/-- Is a number neither free nor a literal? -/
def badI (e x : Int) : Bool := x != -1 && noLit e x
/-- What is said of a circuit. -/
def cirE (ins : Int) (ps : List (Int × Int)) (a s : Int) (is ns bs hs : List Int) : Int :=
  if chkE ins ps ≠ 0 then chkE ins ps
  else if a < 0 ∨ s < 0 ∨ a + s ≠ ins then 4
  else if (is.length : Int) ≠ s ∨ (ns.length : Int) ≠ s then 1
  else if (is.any (badI (2 * (1 + ins + ps.length))) || ns.any (noLit (2 * (1 + ins + ps.length))) || bs.any (noLit (2 * (1 + ins + ps.length))) || hs.any (noLit (2 * (1 + ins + ps.length)))) = true then 5 else 0

theorem enter25 (args : Array Value) (w : World) : (callFunc 62 args).run Tryz.prog w = .ok (.enter 62 args) w := by kernel_rfl

theorem any_one (f : Int → Bool) (x : Int) : [x].any f = f x := by simp

set_option maxHeartbeats 1000000 in
theorem checkB1_any (x ins : Int) (p : Option Addr) (len cap : Nat) (h0 : 0 ≤ ins) (h1 : ins ≤ 1000) (h2 : len ≤ 1000001) (B : Nat) (w : World) (c0 : w.cell? ⟨B, 0, none⟩ = some (.int .i64 ins)) (c1 : w.cell? ⟨B, 1, none⟩ = some (.slice p len cap)) :
    Calls Tryz.prog 62 #[.int .i64 x, .pointer (some ⟨B, 0, none⟩)] w fun r w' => r = .returned (.bool (badI (2 * (1 + ins + len)) x)) ∧ Below w.heap.size w w' := by
  have HE : Hid (badI (2 * (1 + ins + len)) x = (x != -1 && noLit (2 * (1 + ins + len)) x)) := rfl
  generalize badI (2 * (1 + ins + len)) x = R at *
  by_cases hx : x = -1
  · have HX : Hid (R = false) := by rw [HE.out]; simp [hx, Hid]
    subst hx
    go_enter Tryz.func62, Tryz.ntmps62
    go_wp2
    go_ret
    exact ⟨ret_bool HX.out.symm, Below.refl _ _⟩
  · have hx' : (x != -1) = true := by simpa using hx
    have HX : Hid (R = noLit (2 * (1 + ins + len)) x) := by rw [HE.out, hx']; rfl
    have hb : Below w.heap.size w (w.alloc (.cells #[.int .i64 x] 3)) := bal (Below.refl _ _) _
    have HH := hide (has_any ins p len cap h0 h1 h2 [x] (some ⟨w.heap.size, 0, none⟩) 1 (by simp [maxLen]) _ (ints_one x))
    rw [any_one] at HH
    have HB := hide hb
    clear HE hb
    generalize noLit (2 * (1 + ins + len)) x = Z at *
    go_enter Tryz.func62, Tryz.ntmps62
    go_wp2_with fail
    refine HH.out.mono ?_
    rintro e w1 ⟨rfl, hb1⟩
    have HB1 := hide (bthen HB.out hb1)
    clear hb1
    go_wp2
    go_ret
    exact ⟨ret_bool (by rw [HX.out]), HB1.out⟩

/-- What lies of a circuit in memory. -/
structure CirAt (w : World) (p : Option Addr) (ps : List (Int × Int)) (i n b h : Sl) : Prop where
  g : PairsAt w p ps
  i : IntsAt w i.at' i.ns
  n : IntsAt w n.at' n.ns
  b : IntsAt w b.at' b.ns
  h : IntsAt w h.at' h.ns
theorem CirAt.later {w w1 : World} {p : Option Addr} {ps : List (Int × Int)} {i n b h : Sl} (H : CirAt w p ps i n b h) (hb : Below w.heap.size w w1) : CirAt w1 p ps i n b h := ⟨H.g.later hb, H.i.later hb, H.n.later hb, H.b.later hb, H.h.later hb⟩

set_option maxHeartbeats 8000000 in
theorem checkB_any (ins : Int) (p : Option Addr) (cap : Nat) (ps : List (Int × Int)) (hwf : WfP ps) (hl : ps.length ≤ 8796093022208) (a s : Int) (ha : Wf a) (hs : Wf s) (i n b h : Sl) (hli : i.ns.length ≤ maxLen) (hln : n.ns.length ≤ maxLen) (hlb : b.ns.length ≤ maxLen) (hlh : h.ns.length ≤ maxLen) (w : World) (hC : CirAt w p ps i n b h) :
    Calls Tryz.prog 32 #[circ ins p ps.length cap a s i n b h] w fun e w' => e = .returned (.int .i64 (cirE ins ps a s i.ns n.ns b.ns h.ns)) ∧ Below w.heap.size w w' := by
  have hB0 : Below w.heap.size w (w.alloc (.cells (circC ins p ps.length cap a s i n b h) 27)) := bal (Below.refl _ _) _
  have HC := hide (check_any ins p cap ps hwf hl _ (hC.g.later hB0))
  have HK := hide hC
  unfold maxLen at hli hln hlb hlh
  clear hC hwf
  by_cases hc : chkE ins ps = 0
  · obtain ⟨h0, h1, hlen, _, _⟩ := chk_zero hc
    have HE : Hid (cirE ins ps a s i.ns n.ns b.ns h.ns = if a < 0 ∨ s < 0 ∨ a + s ≠ ins then 4 else if (i.ns.length : Int) ≠ s ∨ (n.ns.length : Int) ≠ s then 1 else if (i.ns.any (badI (2 * (1 + ins + ps.length))) || n.ns.any (noLit (2 * (1 + ins + ps.length))) || b.ns.any (noLit (2 * (1 + ins + ps.length))) || h.ns.any (noLit (2 * (1 + ins + ps.length)))) = true then 5 else 0) := by unfold cirE; rw [if_neg (by simpa using hc)]; rfl
    rw [hc] at HC
    clear hc
    generalize cirE ins ps a s i.ns n.ns b.ns h.ns = R at *
    go_enter Tryz.func32, Tryz.ntmps32
    go_wp2_with fail
    refine HC.out.mono ?_
    rintro e w1 ⟨rfl, hb1⟩
    have HB1 := hide (bthen hB0 hb1)
    have q0 := cell_later hb1 (a := ⟨w.heap.size, 0, none⟩) (v := .int .i64 ins) (by simp [go_sem])
    have q1 := cell_later hb1 (a := ⟨w.heap.size, 1, none⟩) (v := .slice p ps.length cap) (by simp [go_sem])
    have q2 := cell_later hb1 (a := ⟨w.heap.size, 2, none⟩) (v := .int .i64 a) (by simp [go_sem])
    have q3 := cell_later hb1 (a := ⟨w.heap.size, 3, none⟩) (v := .int .i64 s) (by simp [go_sem])
    have q4 := cell_later hb1 (a := ⟨w.heap.size, 4, none⟩) (v := i.v) (by simp [go_sem])
    have q5 := cell_later hb1 (a := ⟨w.heap.size, 5, none⟩) (v := n.v) (by simp [go_sem])
    have q6 := cell_later hb1 (a := ⟨w.heap.size, 6, none⟩) (v := b.v) (by simp [go_sem])
    have q7 := cell_later hb1 (a := ⟨w.heap.size, 7, none⟩) (v := h.v) (by simp [go_sem])
    obtain ⟨ia, il, ic⟩ := i
    obtain ⟨na, nl, nc⟩ := n
    obtain ⟨ba, bl, bc⟩ := b
    obtain ⟨ga, gl, gc⟩ := h
    simp only [Sl.v] at *
    have HW := hide ha
    have HWS := hide hs
    clear hb1 hB0 HC ha hs
    by_cases ha0 : a < 0
    · have HX : Hid (R = 4) := by rw [HE.out, if_pos (Or.inl ha0)]; rfl
      clear HE
      go_wp2
      go_ret
      exact ⟨ret_int HX.out.symm, HB1.out⟩
    · by_cases hs0 : s < 0
      · have HX : Hid (R = 4) := by rw [HE.out, if_pos (Or.inr (Or.inl hs0))]; rfl
        clear HE
        go_wp2
        go_ret
        exact ⟨ret_int HX.out.symm, HB1.out⟩
      · have hw := wrap_id (x := ins - a) (by have := HW.out.2; omega) (by omega)
        by_cases hsum : a + s = ins
        · have hne : (s != ins - a) = false := by simp; omega
          rw [if_neg (by omega)] at HE
          by_cases hi : (il.length : Int) = s
          · by_cases hn : (nl.length : Int) = s
            · rw [if_neg (by omega)] at HE
              have hi' : ((il.length : Int) != s) = false := by simpa using hi
              have hn' : ((nl.length : Int) != s) = false := by simpa using hn
              have HCF := hide (containsFunc_any 62 (.pointer (some ⟨w.heap.size, 0, none⟩)) (badI (2 * (1 + ins + ps.length))) il ia ic w1 (by unfold maxLen; omega) (HK.out.i.later HB1.out) enter25 (fun wq hb j hj => checkB1_any _ ins p ps.length cap h0 h1 (by omega) w.heap.size wq (cell_later hb q0) (cell_later hb q1)))
              have HH := hide (fun (l : List Int) (q : Option Addr) (qc : Nat) (hl : l.length ≤ maxLen) (w' : World) (hI : IntsAt w' q l) => has_any ins p ps.length cap h0 h1 (by omega) l q qc hl w' hI)
              clear hi hn
              cases h3 : il.any (badI (2 * (1 + ins + ps.length)))
              · rw [h3] at HCF HE
                go_wp2_with fail
                refine HCF.out.mono ?_
                rintro e w2 ⟨rfl, hb2⟩
                have p0 := cell_later hb2 q0
                have p1 := cell_later hb2 q1
                have p5 := cell_later hb2 q5
                have p6 := cell_later hb2 q6
                have p7 := cell_later hb2 q7
                have HB2 := hide (bthen HB1.out hb2)
                clear hb2 q0 q1 q2 q3 q4 q5 q6 q7 HB1 h3 HCF
                go_wp2_with fail
                refine (HH.out nl na nc (by unfold maxLen; omega) _ (HK.out.n.later HB2.out)).mono ?_
                rintro e w3 ⟨rfl, hb3⟩
                have q0 := cell_later hb3 p0
                have q1 := cell_later hb3 p1
                have q6 := cell_later hb3 p6
                have q7 := cell_later hb3 p7
                have HB3 := hide (bthen HB2.out hb3)
                clear hb3 p0 p1 p5 p6 p7 HB2
                cases h4 : nl.any (noLit (2 * (1 + ins + ps.length)))
                · rw [h4] at HE
                  clear h4
                  go_wp2_with fail
                  refine (HH.out bl ba bc (by unfold maxLen; omega) _ (HK.out.b.later HB3.out)).mono ?_
                  rintro e w4 ⟨rfl, hb4⟩
                  have p0 := cell_later hb4 q0
                  have p1 := cell_later hb4 q1
                  have p7 := cell_later hb4 q7
                  have HB4 := hide (bthen HB3.out hb4)
                  clear hb4 q0 q1 q6 q7 HB3
                  cases h5 : bl.any (noLit (2 * (1 + ins + ps.length)))
                  · rw [h5] at HE
                    clear h5
                    go_wp2_with fail
                    refine (HH.out gl ga gc (by unfold maxLen; omega) _ (HK.out.h.later HB4.out)).mono ?_
                    rintro e w5 ⟨rfl, hb5⟩
                    have HB5 := hide (bthen HB4.out hb5)
                    clear hb5 p0 p1 p7 HB4
                    cases h6 : gl.any (noLit (2 * (1 + ins + ps.length)))
                    · have HX : Hid (R = 0) := by rw [HE.out, h6]; rfl
                      clear HE h6
                      go_wp2
                      go_ret
                      exact ⟨ret_int HX.out.symm, HB5.out⟩
                    · have HX : Hid (R = 5) := by rw [HE.out, h6]; rfl
                      clear HE h6
                      go_wp2
                      go_ret
                      exact ⟨ret_int HX.out.symm, HB5.out⟩
                  · have HX : Hid (R = 5) := by rw [HE.out, h5]; rfl
                    clear HE h5
                    go_wp2
                    go_ret
                    exact ⟨ret_int HX.out.symm, HB4.out⟩
                · have HX : Hid (R = 5) := by rw [HE.out, h4]; rfl
                  clear HE h4
                  go_wp2
                  go_ret
                  exact ⟨ret_int HX.out.symm, HB3.out⟩
              · rw [h3] at HCF
                have HX : Hid (R = 5) := by rw [HE.out, h3]; rfl
                clear HE h3
                go_wp2_with fail
                refine HCF.out.mono ?_
                rintro e w2 ⟨rfl, hb2⟩
                have HB2 := hide (bthen HB1.out hb2)
                clear hb2 HB1
                go_wp2
                go_ret
                exact ⟨ret_int HX.out.symm, HB2.out⟩
            · have HX : Hid (R = 1) := by rw [HE.out, if_pos (Or.inr (by simpa using hn))]; rfl
              have hi' : ((il.length : Int) != s) = false := by simpa using hi
              have hn' : ((nl.length : Int) != s) = true := by simpa using hn
              clear HE hi hn
              go_wp2
              go_ret
              exact ⟨ret_int HX.out.symm, HB1.out⟩
          · have HX : Hid (R = 1) := by rw [HE.out, if_pos (Or.inl (by simpa using hi))]; rfl
            have hi' : ((il.length : Int) != s) = true := by simpa using hi
            clear HE hi
            go_wp2
            go_ret
            exact ⟨ret_int HX.out.symm, HB1.out⟩
        · have HX : Hid (R = 4) := by rw [HE.out, if_pos (Or.inr (Or.inr hsum))]; rfl
          have hne : (s != ins - a) = true := by simp; omega
          clear HE hsum
          go_wp2
          go_ret
          exact ⟨ret_int HX.out.symm, HB1.out⟩
  · have hne : (chkE ins ps != 0) = true := by simpa using hc
    have HE : Hid (cirE ins ps a s i.ns n.ns b.ns h.ns = chkE ins ps) := by unfold cirE; rw [if_pos hc]; rfl
    clear hc
    generalize chkE ins ps = Z at *
    generalize cirE ins ps a s i.ns n.ns b.ns h.ns = R at *
    go_enter Tryz.func32, Tryz.ntmps32
    go_wp2_with fail
    refine HC.out.mono ?_
    rintro e w1 ⟨rfl, hb1⟩
    have HB1 := hide (bthen hB0 hb1)
    clear hb1 hB0 HC
    go_wp2
    go_ret
    exact ⟨ret_int HE.out.symm, HB1.out⟩

end Go.Proofs.YtjhkecnnhddhbaaGreatDoor
