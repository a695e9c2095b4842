/- Pairs of a state and a node. -/
import Derived.Test.YtabnimgpednhjaaDoorMh
namespace Go.Proofs.YtabnimgpednhjaaDoor.Ev
open Go.RowKit
set_option maxRecDepth 100000

def kdOf (ns : List Nd) (x : Int) : Int := match ns[x.toNat]? with | some y => y.kind | none => 0

theorem kd_wd {w : World} {b off : Nat} {ns : List Nd} (hc : ∀ (i : Nat) (h : i < ns.length),
    w.cell? ⟨b, off + i * 6, none⟩ = some (.int .i64 ns[i].kind) ∧ w.cell? ⟨b, off + i * 6 + 1, none⟩ = some (.int .i64 ns[i].width) ∧
    w.cell? ⟨b, off + i * 6 + 2, none⟩ = some (.int .i64 ns[i].a) ∧ w.cell? ⟨b, off + i * 6 + 3, none⟩ = some (.int .i64 ns[i].b) ∧
    w.cell? ⟨b, off + i * 6 + 4, none⟩ = some (.int .i64 ns[i].c) ∧ w.cell? ⟨b, off + i * 6 + 5, none⟩ = some (.int .i64 ns[i].n)) (x : Int) (h0 : 0 ≤ x) (h1 : x < ns.length) :
    w.cell? ⟨b, off + x.toNat * 6, none⟩ = some (.int .i64 (kdOf ns x)) ∧ w.cell? ⟨b, off + x.toNat * 6 + 1, none⟩ = some (.int .i64 (wdOf ns x)) := by
  refine ⟨?_, wd_cell hc x h0 h1⟩
  rw [(hc x.toNat (by omega)).1]
  unfold kdOf
  rw [List.getElem?_eq_getElem (by omega)]

/-- What a pair is told. -/
def pairE (ns : List Nd) (s x : Int) : Int :=
  if isN ns.length s = false ∨ kdOf ns s ≠ 3 ∨ isN ns.length x = false then 5 else if wdOf ns s ≠ wdOf ns x then 1 else 0

theorem isNode_below (m : Mv) (len : Nat) (hl : len ≤ maxLen) (x : Int) (w : World) :
    Calls Tryd.prog 45 #[m.val len, .int .i64 x] w fun e w' => e = .returned (.bool (isN len x)) ∧ Below w.heap.size w w' :=
  (isNode_any m len hl x w).mono fun _ _ ⟨he, hw⟩ => ⟨he, by rw [hw]; exact bal (Below.refl _ _) _⟩

theorem box5 {w w1 : World} {m : Mv} {l : Nat} {B : Nat} (hb : Below w.heap.size w w1) (h : ∀ i (hi : i < 5), w.cell? ⟨B, i, none⟩ = some ((m.cells l)[i]'(by simpa using hi))) : ∀ i (hi : i < 5), w1.cell? ⟨B, i, none⟩ = some ((m.cells l)[i]'(by simpa using hi)) :=
  fun i hi => cell_later hb (h i hi)

set_option maxRecDepth 100000 in
set_option maxHeartbeats 1000000 in
theorem checkPair_any (m : Mv) (ns : List Nd) (hl : ns.length ≤ 80) (s x : Int) (w : World) (hN : NodesAt w m.a0 ns) :
    Calls Tryd.prog 40 #[m.val ns.length, .agg #[.int .i64 s, .int .i64 x]] w fun e w' => e = .returned (.int .i64 (pairE ns s x)) ∧ Below w.heap.size w w' := by
  obtain ⟨a0, c0, a1, l1, c1, a2, l2, c2, a3, l3, c3, a4, l4, c4⟩ := m
  simp only at hN
  by_cases hs : isN ns.length s = true
  · obtain ⟨s0, s1⟩ := isN_true.1 hs
    obtain ⟨b, off, rfl, hc⟩ := hN (by omega)
    have HC : Hid _ := hc
    clear hc hN
    go_enter Tryd.func40, Tryd.ntmps40
    go_wp2_with fail
    refine (isNode_below ⟨(some ⟨b, off, none⟩), c0, a1, l1, c1, a2, l2, c2, a3, l3, c3, a4, l4, c4⟩ ns.length (by unfold maxLen; omega) s _).mono ?_
    rintro e w1 ⟨rfl, hb1⟩
    have hbA : Below w.heap.size w ((w.alloc (.cells (Mv.cells ⟨(some ⟨b, off, none⟩), c0, a1, l1, c1, a2, l2, c2, a3, l3, c3, a4, l4, c4⟩ ns.length) 26)).alloc (.cells #[.int .i64 s, .int .i64 x] 61)) := bal (bal (Below.refl _ _) _) _
    have m0 := cell_later hb1 (a := ⟨w.heap.size, 0, none⟩) (v := .slice (some ⟨b, off, none⟩) ns.length c0) (by simp [go_sem])
    have m1 := cell_later hb1 (a := ⟨w.heap.size, 1, none⟩) (v := .slice a1 l1 c1) (by simp [go_sem])
    have m2 := cell_later hb1 (a := ⟨w.heap.size, 2, none⟩) (v := .slice a2 l2 c2) (by simp [go_sem])
    have m3 := cell_later hb1 (a := ⟨w.heap.size, 3, none⟩) (v := .slice a3 l3 c3) (by simp [go_sem])
    have m4 := cell_later hb1 (a := ⟨w.heap.size, 4, none⟩) (v := .slice a4 l4 c4) (by simp [go_sem])
    have p0 := cell_later hb1 (a := ⟨w.heap.size + 1, 0, none⟩) (v := .int .i64 s) (by simp [go_sem])
    have p1 := cell_later hb1 (a := ⟨w.heap.size + 1, 1, none⟩) (v := .int .i64 x) (by simp [go_sem])
    have hbw := bthen hbA hb1
    have hS := kd_wd HC.out s s0 s1
    have ks := cell_later hbw hS.1
    have ws := cell_later hbw hS.2
    clear hS hb1 hbA
    by_cases h3 : kdOf ns s = 3
    · have h3' : (kdOf ns s != 3) = false := by simp [h3]
      have H3 : Hid _ := h3
      clear h3
      go_wp2_with fail
      refine (isNode_below ⟨some ⟨b, off, none⟩, c0, a1, l1, c1, a2, l2, c2, a3, l3, c3, a4, l4, c4⟩ ns.length (by unfold maxLen; omega) x _).mono ?_
      rintro e w2 ⟨rfl, hb2⟩
      have k0 := cell_later hb2 m0
      have k1 := cell_later hb2 p0
      have k2 := cell_later hb2 p1
      have k3 := cell_later hb2 ws
      have hbw2 := bthen hbw hb2
      clear m0 m1 m2 m3 m4 p0 p1 ks ws hb2 hbw
      by_cases hx : isN ns.length x = true
      · obtain ⟨x0, x1⟩ := isN_true.1 hx
        have k4 := cell_later hbw2 (kd_wd HC.out x x0 x1).2
        have HE : Hid (pairE ns s x = if wdOf ns s ≠ wdOf ns x then 1 else 0) := by
          unfold pairE; rw [if_neg (by simp [hs, hx, H3.out])]; rfl
        by_cases he : wdOf ns s = wdOf ns x
        · have HE2 : Hid (pairE ns s x = 0) := by rw [HE.out, if_neg (by simp [he])]; rfl
          have he' : (wdOf ns s != wdOf ns x) = false := by simp [he]
          clear he HE
          go_wp2
          go_quiet (fail)
          go_wp2
          go_ret
          exact ⟨ret_int HE2.out.symm, below_drewN hbw2 _⟩
        · have HE2 : Hid (pairE ns s x = 1) := by rw [HE.out, if_pos he]; rfl
          have he' : (wdOf ns s != wdOf ns x) = true := by simp [he]
          clear he HE
          go_wp2
          go_quiet (fail)
          go_wp2
          go_ret
          exact ⟨ret_int HE2.out.symm, below_drewN hbw2 _⟩
      · have hx' : isN ns.length x = false := by simpa using hx
        have HE : Hid (pairE ns s x = 5) := by unfold pairE; rw [if_pos (by simp [hx'])]; rfl
        clear hx
        go_wp2
        go_ret
        exact ⟨ret_int HE.out.symm, hbw2⟩
    · have h3' : (kdOf ns s != 3) = true := by simp [h3]
      have HE : Hid (pairE ns s x = 5) := by unfold pairE; rw [if_pos (by simp [h3])]; rfl
      clear h3
      go_wp2
      go_ret
      exact ⟨ret_int HE.out.symm, hbw⟩
  · have hs' : isN ns.length s = false := by simpa using hs
    have HE : Hid (pairE ns s x = 5) := by unfold pairE; rw [if_pos (by simp [hs'])]; rfl
    clear hs hN
    go_enter Tryd.func40, Tryd.ntmps40
    go_wp2_with fail
    refine (isNode_below ⟨a0, c0, a1, l1, c1, a2, l2, c2, a3, l3, c3, a4, l4, c4⟩ ns.length (by unfold maxLen; omega) s _).mono ?_
    rintro e w1 ⟨rfl, hb1⟩
    have hbA : Below w.heap.size w ((w.alloc (.cells (Mv.cells ⟨a0, c0, a1, l1, c1, a2, l2, c2, a3, l3, c3, a4, l4, c4⟩ ns.length) 26)).alloc (.cells #[.int .i64 s, .int .i64 x] 61)) := bal (bal (Below.refl _ _) _) _
    have m0 := cell_later hb1 (a := ⟨w.heap.size, 0, none⟩) (v := .slice a0 ns.length c0) (by simp [go_sem])
    have m1 := cell_later hb1 (a := ⟨w.heap.size, 1, none⟩) (v := .slice a1 l1 c1) (by simp [go_sem])
    have m2 := cell_later hb1 (a := ⟨w.heap.size, 2, none⟩) (v := .slice a2 l2 c2) (by simp [go_sem])
    have m3 := cell_later hb1 (a := ⟨w.heap.size, 3, none⟩) (v := .slice a3 l3 c3) (by simp [go_sem])
    have m4 := cell_later hb1 (a := ⟨w.heap.size, 4, none⟩) (v := .slice a4 l4 c4) (by simp [go_sem])
    have p0 := cell_later hb1 (a := ⟨w.heap.size + 1, 0, none⟩) (v := .int .i64 s) (by simp [go_sem])
    have p1 := cell_later hb1 (a := ⟨w.heap.size + 1, 1, none⟩) (v := .int .i64 x) (by simp [go_sem])
    have hbw := bthen hbA hb1
    go_wp2
    go_ret
    exact ⟨ret_int HE.out.symm, hbw⟩

end Go.Proofs.YtabnimgpednhjaaDoor.Ev
