/- Steps that differ, of a circuit of one bit: the clauses of one step. -/
import Derived.Test.YtjhkecnnhddhbaaGreatDoorKv
import Derived.Test.YtjhkecnnhddhbaaGreatDoorKq
namespace Go.Proofs.YtjhkecnnhddhbaaGreatDoor
open Go.RowKit Go.Maps Go.WideMaps
set_option maxRecDepth 100000
set_option autoImplicit false

theorem turn_one {y : Int} : turn y = 1 ↔ y = 0 := by
  unfold turn
  split
  · rename_i h1
    have : y % 2 = 1 := by simpa [odd] using h1
    omega
  · omega
theorem quiet_len {w : World} {C : Ci} {last : Nat} (h : CO w C last) : (stepsL (quietT C) last).length = last * cntB 0 C.b.ns C.b.ns.length := by
  refine stepsL_len fun t _ => stepsL_cnt (g := fun k => cntB 0 C.b.ns k) rfl fun k hk => ?_
  have hx := h.nb _ (getD_mem' hk)
  have ha := atL_one (h.t0 t) hx.1
  simp only [cntB_succ hk]
  unfold quietC
  rw [rootC_len]
  simp only [turn_one, ha.1]
/-- All clauses of one step whose states differ. -/
def apartL (C : Ci) : List (List Int) := stepsL (fun t => andsT C t C.ps.length) 2 ++ (stepsL (bondsT C) 1 ++ (stepsL (holdsT C) 2 ++ (badC C 1 ++ (stepsL (quietT C) 1 ++ differT C 0 1 (2 * C.f)))))
/-- What is known of a part. -/
structure PtF (w0 : World) (M : Nat) (C : Ci) (last : Nat) (p : Prt) (vs : Int) (cs : Int) (L : List (List Int)) (nd : Option Int) : Prop where
  vs : p.vs = vs
  cs : p.cs = cs
  L : p.L = L
  nd : p.need = nd
  mks : ((last : Int) + 1) * C.f ≤ 200000 → Makes w0 M C last p
  en : ∀ (args : Array Value) (w : World), (callFunc p.fn args).run Tryz.prog w = .ok (.enter p.fn args) w

set_option maxHeartbeats 4000000 in
theorem madeA (w1 : World) (M : Nat) (C : Ci) (hCO : CO w1 C 1) (hs : C.s = 1) (hf : 2 * C.f + 1 ≤ 200000) (hlen : (apartL C).length ≤ 800000) (hsh : ∀ c ∈ apartL C, c.length ≤ 4000000) (hck : chkC (2 * C.f + 1) (apartL C) = 0) (p1 p2 p3 p4 p5 p6 : Prt)
    (h1 : PtF w1 M C 1 p1 (((1 + 1 : Nat) : Int) * C.f) ((1 + 1) * (3 * C.ps.length) : Nat) (stepsL (fun t => andsT C t C.ps.length) (1 + 1)) none)
    (h2 : PtF w1 M C 1 p2 0 (1 * (cntB 0 C.n.ns C.n.ns.length + cntB 1 C.n.ns C.n.ns.length) : Nat) (stepsL (bondsT C) 1) none)
    (h3 : PtF w1 M C 1 p3 0 ((1 + 1) * cntB 1 C.h.ns C.h.ns.length : Nat) (stepsL (holdsT C) (1 + 1)) none)
    (h4 : PtF w1 M C 1 p4 0 ((badC C 1).length : Nat) (badC C 1) none)
    (h5 : PtF w1 M C 1 p5 0 (1 * cntB 0 C.b.ns C.b.ns.length : Nat) (stepsL (quietT C) 1) none)
    (h6 : PtF w1 M C 1 p6 1 3 (differT C 0 1 (2 * C.f)) (some (2 * C.f)))
    (w : World) (hU : Un w1 w M (.slice none 0 0) 0 [] C 1) (hx1 : Bxs w (.slice none 0 0) M p1.bx) (hx2 : Bxs w (.slice none 0 0) M p2.bx) (hx3 : Bxs w (.slice none 0 0) M p3.bx) (hx4 : Bxs w (.slice none 0 0) M p4.bx) (hx5 : Bxs w (.slice none 0 0) M p5.bx) (hx6 : Bxs w (.slice none 0 0) M p6.bx) :
    Calls Tryz.prog 11 #[.pointer (some ⟨M, 0, none⟩), .slice (some ⟨w.heap.size, 0, none⟩) 6 6] (w.alloc (.cells #[.int .i64 p1.vs, .int .i64 p1.cs, .func (.func p1.fn) #[] p1.caps, .int .i64 p2.vs, .int .i64 p2.cs, .func (.func p2.fn) #[] p2.caps, .int .i64 p3.vs, .int .i64 p3.cs, .func (.func p3.fn) #[] p3.caps, .int .i64 p4.vs, .int .i64 p4.cs, .func (.func p4.fn) #[] p4.caps, .int .i64 p5.vs, .int .i64 p5.cs, .func (.func p5.fn) #[] p5.caps, .int .i64 p6.vs, .int .i64 p6.cs, .func (.func p6.fn) #[] p6.caps] 45)) (fun e w' => MdOut w1 0 (2 * C.f + 1) (apartL C) e w' ∧ MdKp (w.alloc (.cells #[.int .i64 p1.vs, .int .i64 p1.cs, .func (.func p1.fn) #[] p1.caps, .int .i64 p2.vs, .int .i64 p2.cs, .func (.func p2.fn) #[] p2.caps, .int .i64 p3.vs, .int .i64 p3.cs, .func (.func p3.fn) #[] p3.caps, .int .i64 p4.vs, .int .i64 p4.cs, .func (.func p4.fn) #[] p4.caps, .int .i64 p5.vs, .int .i64 p5.cs, .func (.func p5.fn) #[] p5.caps, .int .i64 p6.vs, .int .i64 p6.cs, .func (.func p6.fn) #[] p6.caps] 45)) M w') := by
  have hbP : Below w.heap.size w (w.alloc (.cells #[.int .i64 p1.vs, .int .i64 p1.cs, .func (.func p1.fn) #[] p1.caps, .int .i64 p2.vs, .int .i64 p2.cs, .func (.func p2.fn) #[] p2.caps, .int .i64 p3.vs, .int .i64 p3.cs, .func (.func p3.fn) #[] p3.caps, .int .i64 p4.vs, .int .i64 p4.cs, .func (.func p4.fn) #[] p4.caps, .int .i64 p5.vs, .int .i64 p5.cs, .func (.func p5.fn) #[] p5.caps, .int .i64 p6.vs, .int .i64 p6.cs, .func (.func p6.fn) #[] p6.caps] 45)) := bal (Below.refl _ _) _
  have hnw := hU.new (Nat.le_refl w.heap.size)
  have hlf := hCO.lf
  have hf0 := hCO.f0
  have hv2 : ((1 + 1 : Nat) : Int) * C.f = 2 * C.f := rfl
  have hpl := hCO.p1
  have b1 := cntB_le 0 C.n.ns C.n.ns.length; have b2 := cntB_le 1 C.n.ns C.n.ns.length; have b3 := cntB_le 1 C.h.ns C.h.ns.length; have b4 := cntB_le 0 C.b.ns C.b.ns.length
  have c1 := hCO.nl; have c2 := hCO.sm; have c3 := hCO.i1; have c4 := hCO.a0; have c5 := hCO.hl; have c6 := hCO.bl
  have hbadl : (badC C 1).length ≤ 1 := by unfold badC; split <;> simp
  have hPB : PrB (w.alloc (.cells #[.int .i64 p1.vs, .int .i64 p1.cs, .func (.func p1.fn) #[] p1.caps, .int .i64 p2.vs, .int .i64 p2.cs, .func (.func p2.fn) #[] p2.caps, .int .i64 p3.vs, .int .i64 p3.cs, .func (.func p3.fn) #[] p3.caps, .int .i64 p4.vs, .int .i64 p4.cs, .func (.func p4.fn) #[] p4.caps, .int .i64 p5.vs, .int .i64 p5.cs, .func (.func p5.fn) #[] p5.caps, .int .i64 p6.vs, .int .i64 p6.cs, .func (.func p6.fn) #[] p6.caps] 45)) (.slice none 0 0) M w.heap.size [p1, p2, p3, p4, p5, p6] := ⟨hnw.1, hnw.2, fun i hi => by
    match i, hi with
    | 0, _ => exact ⟨by simp [go_sem], by simp [go_sem], by simp [go_sem]⟩
    | 1, _ => exact ⟨by simp [go_sem], by simp [go_sem], by simp [go_sem]⟩
    | 2, _ => exact ⟨by simp [go_sem], by simp [go_sem], by simp [go_sem]⟩
    | 3, _ => exact ⟨by simp [go_sem], by simp [go_sem], by simp [go_sem]⟩
    | 4, _ => exact ⟨by simp [go_sem], by simp [go_sem], by simp [go_sem]⟩
    | 5, _ => exact ⟨by simp [go_sem], by simp [go_sem], by simp [go_sem]⟩
    | k + 6, hi => simp at hi; omega⟩
  have hsv : sumV [p1, p2, p3, p4, p5, p6] 6 = 2 * C.f + 1 := by
    show 0 + p1.vs + p2.vs + p3.vs + p4.vs + p5.vs + p6.vs = _
    rw [h1.vs, h2.vs, h3.vs, h4.vs, h5.vs, h6.vs]; omega
  have hml : madeL [p1, p2, p3, p4, p5, p6] 6 = apartL C := by
    show p1.L ++ (p2.L ++ (p3.L ++ (p4.L ++ (p5.L ++ (p6.L ++ []))))) = _
    rw [h1.L, h2.L, h3.L, h4.L, h5.L, h6.L]; simp [apartL]
  have hmd := made_parts w1 M C 1 [p1, p2, p3, p4, p5, p6] (by simp) (by simp) (fun p hp => by
    simp only [List.mem_cons, List.mem_nil_iff, or_false] at hp
    rcases hp with rfl | rfl | rfl | rfl | rfl | rfl
    · exact pok_of (n := ((1 + 1) * (3 * C.ps.length))) h1.vs (by rw [h1.cs]) h1.L (by omega) (by omega) (ands_len hCO) (by omega) h1.mks h1.en
    · exact pok_of (n := (1 * (cntB 0 C.n.ns C.n.ns.length + cntB 1 C.n.ns C.n.ns.length))) h2.vs (by rw [h2.cs]) h2.L (by omega) (by omega) (bonds_len hCO) (by omega) h2.mks h2.en
    · exact pok_of (n := ((1 + 1) * cntB 1 C.h.ns C.h.ns.length)) h3.vs (by rw [h3.cs]) h3.L (by omega) (by omega) (holds_len hCO) (by omega) h3.mks h3.en
    · exact pok_of (n := ((badC C 1).length)) h4.vs (by rw [h4.cs]) h4.L (by omega) (by omega) (rfl) (by omega) h4.mks h4.en
    · exact pok_of (n := (1 * cntB 0 C.b.ns C.b.ns.length)) h5.vs (by rw [h5.cs]) h5.L (by omega) (by omega) (quiet_len hCO) (by omega) h5.mks h5.en
    · exact pok_of (n := 3) h6.vs (by rw [h6.cs]; rfl) h6.L (by omega) (by omega) (by unfold differT; rw [List.length_append, differ_len, hs]; rfl) (by omega) h6.mks h6.en
    ) (fun c hc => hsh c (by rw [show [p1, p2, p3, p4, p5, p6].length = 6 from rfl, hml] at hc; exact hc)) (fun _ => by show (1 + 1) * C.f ≤ 200000; omega) (fun k hk x hx => by
    match k, hk, hx with
    | 0, _, hx => rw [show [p1, p2, p3, p4, p5, p6][0] = p1 from rfl, h1.nd] at hx; cases hx
    | 1, _, hx => rw [show [p1, p2, p3, p4, p5, p6][1] = p2 from rfl, h2.nd] at hx; cases hx
    | 2, _, hx => rw [show [p1, p2, p3, p4, p5, p6][2] = p3 from rfl, h3.nd] at hx; cases hx
    | 3, _, hx => rw [show [p1, p2, p3, p4, p5, p6][3] = p4 from rfl, h4.nd] at hx; cases hx
    | 4, _, hx => rw [show [p1, p2, p3, p4, p5, p6][4] = p5 from rfl, h5.nd] at hx; cases hx
    | 5, _, hx => rw [show [p1, p2, p3, p4, p5, p6][5] = p6 from rfl, h6.nd] at hx; cases hx; show 0 + p1.vs + p2.vs + p3.vs + p4.vs + p5.vs = _; rw [h1.vs, h2.vs, h3.vs, h4.vs, h5.vs]; omega
    | k + 6, hk, _ => simp at hk; omega
    ) w.heap.size _ (hU.later hbP) hPB (fun p hp => by
    simp only [List.mem_cons, List.mem_nil_iff, or_false] at hp
    rcases hp with rfl | rfl | rfl | rfl | rfl | rfl
    · exact hx1.later hbP
    · exact hx2.later hbP
    · exact hx3.later hbP
    · exact hx4.later hbP
    · exact hx5.later hbP
    · exact hx6.later hbP
    )
  rw [madE_of (V := 2 * C.f + 1) (L := apartL C) hsv hml, if_neg (by omega), if_neg (by omega), hck, show [p1, p2, p3, p4, p5, p6].length = 6 from rfl, hsv, hml] at hmd
  exact hmd
end Go.Proofs.YtjhkecnnhddhbaaGreatDoor
