/- What must be in any case; the law: the walks. -/
import Derived.Test.YtkinmangilbeeaaGreatDoorLyM
import Derived.Test.YtkinmangilbeeaaGreatDoorRows
import Derived.Test.YtkinmangilbeeaaGreatDoorGoM
import Derived.ProofKit
import Derived.SizedLaws
import Derived.OpenShut
import Derived.ChangeOld
import Derived.Below
import Derived.Deep.Slices
import Derived.Test.YtkinmangilbeeaaGreatDoorCeM
namespace Go.Proofs.YtkinmangilbeeaaGreatDoor.Sr
open Go.RowKit Go.Maps Go.Proofs.YtkinmangilbeeaaGreatDoor.Pf
set_option maxRecDepth 100000

/-- The clauses of searchBegun, in memory. -/
def wBeg (w : World) : World := ((((w.alloc (.cells #[.int .i64 1, .int .i64 2] 3)).alloc (.cells #[.int .i64 1, .int .i64 (-2)] 3)).alloc (.cells #[.int .i64 (-1), .int .i64 2] 3)).alloc (.cells #[.slice (some ⟨w.heap.size, 0, none⟩) 2 2, .slice (some ⟨w.heap.size + 1, 0, none⟩) 2 2, .slice (some ⟨w.heap.size + 1 + 1, 0, none⟩) 2 2] 38)).alloc (.cells #[.int .i64 2, .slice (some ⟨w.heap.size + 1 + 1 + 1, 0, none⟩) 3 3] 24)
def rsBeg (G : Nat) : List Row := [⟨some ⟨G, 0, none⟩, [1, 2], 2⟩, ⟨some ⟨G + 1, 0, none⟩, [1, -2], 2⟩, ⟨some ⟨G + 1 + 1, 0, none⟩, [-1, 2], 2⟩]
theorem wBeg_below (w : World) : Below w.heap.size w (wBeg w) := bal (bal (bal (bal (bal (Below.refl _ _) _) _) _) _) _
theorem wBeg_cl (w : World) : ClAt (wBeg w) (some ⟨w.heap.size + 1 + 1 + 1, 0, none⟩) (rsBeg w.heap.size) := by
  refine ⟨fun _ => ⟨_, _, rfl, fun i hi => ?_⟩, fun r hr => ?_⟩
  · match i, hi with
    | 0, _ => unfold wBeg; simp [go_sem, rsBeg, Row.v]
    | 1, _ => unfold wBeg; simp [go_sem, rsBeg, Row.v]
    | 2, _ => unfold wBeg; simp [go_sem, rsBeg, Row.v]
  · simp only [rsBeg, List.mem_cons, List.not_mem_nil, or_false] at hr
    rcases hr with rfl | rfl | rfl
    · refine fun _ => ⟨_, _, rfl, fun i hi => ?_⟩
      match i, hi with
      | 0, _ => unfold wBeg; simp [go_sem]
      | 1, _ => unfold wBeg; simp [go_sem]
    · refine fun _ => ⟨_, _, rfl, fun i hi => ?_⟩
      match i, hi with
      | 0, _ => unfold wBeg; simp [go_sem]
      | 1, _ => unfold wBeg; simp [go_sem]
    · refine fun _ => ⟨_, _, rfl, fun i hi => ?_⟩
      match i, hi with
      | 0, _ => unfold wBeg; simp [go_sem]
      | 1, _ => unfold wBeg; simp [go_sem]
theorem numsBeg (G : Nat) : numsOf (rsBeg G) = c3 := rfl
theorem chkBeg : chkC 2 c3 = 0 := by decide +kernel
theorem begB {B : Bd} (h : ∃ g f, spreadN g (addAll c3) = some (B, f)) : B = B3 := by
  obtain ⟨g, f, h⟩ := h
  rw [add3] at h
  have := spread_one h spr0
  injection this
theorem isBeg (pb : Bool) : isA pb 2 c3 1 [true, true] [] = (true, 0) := by
  unfold isA
  rw [if_neg (by decide +kernel), if_pos rfl]
  decide +kernel
theorem solveBeg (w W : World) (hb : Below w.heap.size w W) (p : Option Addr) (G : Nat) (hC : ClAt w p (rsBeg G)) : Calls Tryz.prog 16 #[.agg #[.int .i64 2, .slice p 3 3], .int .i64 1000] W (SoOut W Sz) :=
  solve_s 2 (by decide) p 3 (rsBeg G) (show 3 ≤ 800000 by decide) (fun r hr => by
    simp only [rsBeg, List.mem_cons, List.not_mem_nil, or_false] at hr
    rcases hr with rfl | rfl | rfl
    · exact ⟨show 2 ≤ 200 by decide, fun x hx => num2 x (by simp at hx; omega)⟩
    · exact ⟨show 2 ≤ 200 by decide, fun x hx => num2 x (by simp at hx; omega)⟩
    · exact ⟨show 2 ≤ 200 by decide, fun x hx => num2 x (by simp at hx; omega)⟩) chkBeg 1000 (by decide) Sz 2 (by decide) (fun B h _ hs => by
    obtain rfl := begB hs
    exact ⟨3, runs h⟩) W (hC.later hb)
set_option maxHeartbeats 8000000 in
theorem searchBegun_any (w : World) : Calls Tryz.prog 7 #[] w fun e w' => e = .returned (.bool true) ∧ Below w.heap.size w w' := by
  have HCL := hide (wBeg_cl w)
  have HB0 := hide (wBeg_below w)
  have x0 : (wBeg w).cell? ⟨w.heap.size + 1 + 1 + 1 + 1, 0, none⟩ = some (.int .i64 2) := by unfold wBeg; simp [go_sem]
  have x1 : (wBeg w).cell? ⟨w.heap.size + 1 + 1 + 1 + 1, 1, none⟩ = some (.slice (some ⟨w.heap.size + 1 + 1 + 1, 0, none⟩) 3 3) := by unfold wBeg; simp [go_sem]
  have HW : Hid (((((w.alloc (.cells #[.int .i64 1, .int .i64 2] 3)).alloc (.cells #[.int .i64 1, .int .i64 (-2)] 3)).alloc (.cells #[.int .i64 (-1), .int .i64 2] 3)).alloc (.cells #[.slice (some ⟨w.heap.size, 0, none⟩) 2 2, .slice (some ⟨w.heap.size + 1, 0, none⟩) 2 2, .slice (some ⟨w.heap.size + 1 + 1, 0, none⟩) 2 2] 38)).alloc (.cells #[.int .i64 2, .slice (some ⟨w.heap.size + 1 + 1 + 1, 0, none⟩) 3 3] 24) = wBeg w) := rfl
  generalize wBeg w = w1 at *
  go_enter Tryz.func7, Tryz.ntmps7
  go_wp2_with fail
  rw [HW.out]
  refine (solveBeg w1 w1 (Below.refl _ _) _ _ HCL.out).mono ?_
  rintro e w2 ⟨g, rfl, hbl, hb2⟩
  rw [valz] at hbl
  rw [vz]
  have hbA : Below w2.heap.size w2 (w2.alloc (.cells #[.int .i64 1, .slice (some ⟨g, 0, none⟩) 2 2, .slice none 0 0] 27)) := bal (Below.refl _ _) _
  have y0 := cell_later hbA (cell_later hb2 x0)
  have y1 := cell_later hbA (cell_later hb2 x1)
  have a0 : (w2.alloc (.cells #[.int .i64 1, .slice (some ⟨g, 0, none⟩) 2 2, .slice none 0 0] 27)).cell? ⟨w2.heap.size, 0, none⟩ = some (.int .i64 1) := by simp [go_sem]
  have a1 : (w2.alloc (.cells #[.int .i64 1, .slice (some ⟨g, 0, none⟩) 2 2, .slice none 0 0] 27)).cell? ⟨w2.heap.size, 1, none⟩ = some (.slice (some ⟨g, 0, none⟩) 2 2) := by simp [go_sem]
  have a2 : (w2.alloc (.cells #[.int .i64 1, .slice (some ⟨g, 0, none⟩) 2 2, .slice none 0 0] 27)).cell? ⟨w2.heap.size, 2, none⟩ = some (.slice none 0 0) := by simp [go_sem]
  have hz0 := cell_later hb2 x0
  have hz1 := cell_later hb2 x1
  obtain ⟨pb0, hpb0⟩ := pB_ex 2 (numsOf (rsBeg w.heap.size)) (numsOf [])
  have HIS := hide (is_any 2 (some ⟨w.heap.size + 1 + 1 + 1, 0, none⟩) 3 (rsBeg w.heap.size) 1 (some ⟨g, 0, none⟩) 2 [true, true] none 0 [] pb0 hpb0 (show 3 ≤ 5864062014634 by decide) (by decide) (fun r hr => by
    rw [List.append_nil] at hr
    simp only [rsBeg, List.mem_cons, List.not_mem_nil, or_false] at hr
    rcases hr with rfl | rfl | rfl
    · exact (show 2 ≤ maxLen by decide)
    · exact (show 2 ≤ maxLen by decide)
    · exact (show 2 ≤ maxLen by decide)) (by decide) (fun e => by cases e) (fun _ => rfl) (w2.alloc (.cells #[.int .i64 1, .slice (some ⟨g, 0, none⟩) 2 2, .slice none 0 0] 27)) ((HCL.out.later hb2).later hbA) (hbl.later hbA) (clAt_nil _))
  rw [numsBeg, show numsOf [] = [] from rfl, isBeg] at HIS
  have HB2 := hide (bthen (bthen HB0.out hb2) hbA)
  have HBLS := hide (hbl.later hbA)
  clear hb2 x0 x1 hbA HW HCL HB0 hbl
  unfold cval aval at HIS
  go_wp2_with fail
  generalize w2.alloc (.cells #[.int .i64 1, .slice (some ⟨g, 0, none⟩) 2 2, .slice none 0 0] 27) = w3 at *
  refine HIS.out.mono ?_
  rintro e w4 ⟨rfl, hb4⟩
  have b0 := cell_later hb4 a0
  have b1 := cell_later hb4 a1
  obtain ⟨gb, go, hge, hgc⟩ := HBLS.out (by decide)
  obtain ⟨rfl, rfl⟩ : g = gb ∧ 0 = go := by simpa using hge
  have c0 := cell_later hb4 (hgc 0 (by decide))
  have c1 := cell_later hb4 (hgc 1 (by decide))
  have HB4 := hide (bthen HB2.out hb4)
  simp only [Nat.zero_add, List.getElem_cons_zero, List.getElem_cons_succ] at c0 c1
  clear hb4 y0 y1 a0 a1 a2 hz0 hz1 HIS HB2 HBLS hge hgc
  go_wp2
  go_ret
  exact ⟨rfl, HB4.out⟩
set_option maxHeartbeats 8000000 in
theorem searchIs_walk (vars : Int) (p : Option Addr) (cap : Nat) (rs : List Row) (v : Int) (q : Option Addr) (qc : Nat) (vb : List Bool) (r : Option Addr) (rc : Nat) (ps : List Row) (hl : rs.length ≤ 5864062014634) (hl2 : ps.length ≤ 5864062014634) (hin : ∀ r ∈ rs ++ ps, r.ns.length ≤ maxLen) (hvl : vb.length ≤ maxLen) (hp : p = none → cap = 0) (hq : r = none → rc = 0) (w : World) (hC : ClAt w p rs) (hV : BoolsAt w q vb) (hD : ClAt w r ps) :
    Calls Tryz.prog 3 #[cval vars p rs.length cap, aval v q vb.length qc r ps.length rc] w fun e w' => e = .returned (.bool true) ∧ Below w.heap.size w w' := by
  obtain ⟨n, hn⟩ : ∃ n, rs.length = n := ⟨_, rfl⟩
  obtain ⟨m, hm⟩ : ∃ m, ps.length = m := ⟨_, rfl⟩
  obtain ⟨k, hk⟩ : ∃ k, vb.length = k := ⟨_, rfl⟩
  have hB0 : Below w.heap.size w ((w.alloc (.cells #[.int .i64 vars, .slice p n cap] 24)).alloc (.cells #[.int .i64 v, .slice q k qc, .slice r m rc] 27)) := bal (bal (Below.refl _ _) _) _
  have x0 : ((w.alloc (.cells #[.int .i64 vars, .slice p n cap] 24)).alloc (.cells #[.int .i64 v, .slice q k qc, .slice r m rc] 27)).cell? ⟨w.heap.size, 0, none⟩ = some (.int .i64 vars) := by simp [go_sem]
  have x1 : ((w.alloc (.cells #[.int .i64 vars, .slice p n cap] 24)).alloc (.cells #[.int .i64 v, .slice q k qc, .slice r m rc] 27)).cell? ⟨w.heap.size, 1, none⟩ = some (.slice p n cap) := by simp [go_sem]
  have x2 : ((w.alloc (.cells #[.int .i64 vars, .slice p n cap] 24)).alloc (.cells #[.int .i64 v, .slice q k qc, .slice r m rc] 27)).cell? ⟨w.heap.size + 1, 0, none⟩ = some (.int .i64 v) := by simp [go_sem]
  have x3 : ((w.alloc (.cells #[.int .i64 vars, .slice p n cap] 24)).alloc (.cells #[.int .i64 v, .slice q k qc, .slice r m rc] 27)).cell? ⟨w.heap.size + 1, 1, none⟩ = some (.slice q k qc) := by simp [go_sem]
  have x4 : ((w.alloc (.cells #[.int .i64 vars, .slice p n cap] 24)).alloc (.cells #[.int .i64 v, .slice q k qc, .slice r m rc] 27)).cell? ⟨w.heap.size + 1, 2, none⟩ = some (.slice r m rc) := by simp [go_sem]
  obtain ⟨pb, hpb⟩ := pB_ex vars (numsOf rs) (numsOf ps)
  have HIS : Hid (∀ W, Below w.heap.size w W → Calls Tryz.prog 4 #[cval vars p n cap, aval v q k qc r m rc] W (IsOut W (isA pb vars (numsOf rs) v vb (numsOf ps)))) := fun W hb => by
    rw [← hn, ← hm, ← hk]
    exact is_any vars p cap rs v q qc vb r rc ps pb hpb hl hl2 hin hvl hp hq W (hC.later hb) (hV.later hb) (hD.later hb)
  have HCC : Hid (∀ W, Below w.heap.size w W → Calls Tryz.prog 5 #[cval vars p n cap] W fun e w' => e = .returned (.int .i64 (chkC vars (numsOf rs))) ∧ Below W.heap.size W w') := fun W hb => by
    rw [← hn]
    exact checkClauses_any vars p cap rs (by omega) (fun r hr => hin r (List.mem_append.2 (.inl hr))) W (hC.later hb)
  have HAN : Hid (chkC vars (numsOf rs) = 0 → ∀ W, Below w.heap.size w W → Calls Tryz.prog 6 #[cval vars p n cap, aval v q k qc r m rc] W (IsOut W (isA pb vars (numsOf rs) v vb (numsOf ps)))) := fun h0 W hb => by
    rw [← hn, ← hm, ← hk]
    exact answerIs_any vars p cap rs v q qc vb r rc ps pb hpb h0 hl2 hin hp hq W (hC.later hb) (hV.later hb) (hD.later hb)
  have HNO : Hid (chkC vars (numsOf rs) ≠ 0 → isA pb vars (numsOf rs) v vb (numsOf ps) = (false, chkC vars (numsOf rs))) := fun h => by unfold isA; rw [if_pos h]
  rw [hn, hm, hk]
  have HB0 := hide hB0
  clear hl hl2 hin hvl hp hq hC hV hD hB0 hn hm hk
  generalize isA pb vars (numsOf rs) v vb (numsOf ps) = x at *
  generalize chkC vars (numsOf rs) = ck at *
  obtain ⟨xb, xe⟩ := x
  unfold cval aval at *
  go_enter Tryz.func3, Tryz.ntmps3
  go_wp2_with fail
  generalize (w.alloc (.cells #[.int .i64 vars, .slice p n cap] 24)).alloc (.cells #[.int .i64 v, .slice q k qc, .slice r m rc] 27) = w1 at *
  refine (HIS.out w1 HB0.out).mono ?_
  rintro e w2 ⟨rfl, hb2⟩
  have y0 := cell_later hb2 x0
  have y1 := cell_later hb2 x1
  have y2 := cell_later hb2 x2
  have y3 := cell_later hb2 x3
  have y4 := cell_later hb2 x4
  have HB2 := hide (bthen HB0.out hb2)
  clear hb2 x0 x1 x2 x3 x4 HB0 HIS
  go_wp2_with fail
  refine (HCC.out w2 HB2.out).mono ?_
  rintro e w3 ⟨rfl, hb3⟩
  have z0 := cell_later hb3 y0
  have z1 := cell_later hb3 y1
  have z2 := cell_later hb3 y2
  have z3 := cell_later hb3 y3
  have z4 := cell_later hb3 y4
  have HB3 := hide (bthen HB2.out hb3)
  clear hb3 y0 y1 y2 y3 y4 HB2 HCC
  by_cases hc0 : ck = 0
  · have HAW := hide (HAN.out hc0)
    subst hc0
    clear HAN HNO
    go_wp2_with fail
    refine (HAW.out w3 HB3.out).mono ?_
    rintro e w4 ⟨rfl, hb4⟩
    have HB4 := hide (bthen HB3.out hb4)
    clear hb4 HB3 HAW z0 z1 z2 z3 z4
    go_wp2_with fail
    refine (searchBegun_any w4).mono ?_
    rintro e w5 ⟨rfl, hb5⟩
    have HB5 := hide (bthen HB4.out hb5)
    clear hb5 HB4
    go_wp2
    go_ret
    exact ⟨by simp, HB5.out⟩
  · have hx := HNO.out hc0
    injection hx with hx1 hx2
    subst hx1
    subst hx2
    have hcb : (xe == 0) = false := by simpa using hc0
    clear HAN HNO z0 z1 z2 z3 z4
    go_wp2_with fail
    refine (searchBegun_any w3).mono ?_
    rintro e w5 ⟨rfl, hb5⟩
    have HB5 := hide (bthen HB3.out hb5)
    clear hb5 HB3
    go_wp2
    go_ret
    exact ⟨by simp, HB5.out⟩
end Go.Proofs.YtkinmangilbeeaaGreatDoor.Sr

namespace Go.Proofs.YtkinmangilbeeaaGreatDoor
open Go.ChangeShapes Go.WideShapes Go.ChangeAt Go.RowKit Go.Deep
set_option maxRecDepth 100000

theorem own : ownKnob Tryz.prog.godebug = none := by kernel_rfl
theorem laidOut : laidOutB Tryz.prog = true := by kernel_rfl
theorem cells3 : Tryz.prog.cellsOf 3 = 1 := by kernel_rfl
theorem cells4 : Tryz.prog.cellsOf 4 = 1 := by kernel_rfl
theorem bytes3 : Tryz.prog.bytesOf 3 = 8 := by kernel_rfl
theorem bytes4 : Tryz.prog.bytesOf 4 = 1 := by kernel_rfl

section
variable {H : Type} {enc : TypeId × Value → H} {W : World} {base : Nat} {sp : Nat → Bool} {held : Bool} {fuel : Nat} {v : Value} {x : DataW H × List MemPlace}

theorem weigh {t e : TypeId} {es ss : List (DataW H)} (hu : Tryz.prog.underlying t = some (.slice e)) (h : ((DataW.slice es ss).weights Tryz.prog t).all (· ≤ reachBytes) = true) : es.length * Tryz.prog.bytesOf e ≤ reachBytes := by
  have h1 := List.all_eq_true.1 h ((es.length + ss.length) * Tryz.prog.bytesOf e) (by simp [DataW.weights, hu])
  have h2 : (es.length + ss.length) * Tryz.prog.bytesOf e ≤ reachBytes := by simpa using h1
  exact Nat.le_trans (Nat.mul_le_mul_right _ (Nat.le_add_right _ _)) h2

theorem in_ints (h : DataW.trod enc Tryz.prog W base sp held fuel 38 [v] = some x) :
    ∃ p c l, v = .slice p (List.length l) c ∧ IntsAt W p l ∧ ((x.1.weights Tryz.prog 38).all (· ≤ reachBytes) = true → l.length ≤ 17592186043904) := by
  rcases open_ints Tryz.underlying38 Tryz.underlying3 cells3 h with ⟨hcs, hx⟩ | ⟨a, len, cap, zs, hcs, _, hl, hm, hz, hx, hcell, _⟩
  · simp at hcs
    exact ⟨none, 0, [], hcs, fun h => by simp at h, fun _ => by simp⟩
  · simp at hcs
    have hlz : len ≤ zs.length := by rw [hz]; split <;> omega
    refine ⟨some a, cap, zs.take len, by rw [hcs, List.length_take, Nat.min_eq_left hlz], ?_, ?_⟩
    · intro h0
      rw [List.length_take, Nat.min_eq_left hlz] at h0
      obtain ⟨b, off, spot⟩ := a
      have hspot : spot = none := by simpa [Addr.add] using World.cell?_spot (hcell 0 (by omega))
      subst hspot
      refine ⟨b, off, rfl, fun i hi => ?_⟩
      have hi' : i < zs.length := by rw [List.length_take] at hi; omega
      have := hcell i hi'
      rw [Addr.add_lit] at this
      rw [this]
      simp [List.getD, List.getElem?_eq_getElem hi']
    · intro hw
      subst hx
      have := weigh Tryz.underlying38 hw
      rw [bytes3] at this
      simp only [lits, List.length_map, reachBytes] at this
      omega

theorem in_bools (h : DataW.trod enc Tryz.prog W base sp held fuel 25 [v] = some x) :
    ∃ p c l, v = .slice p (List.length l) c ∧ (p = none → c = 0) ∧ BoolsAt W p l ∧ l.length ≤ maxLen := by
  rcases open_slice1 Tryz.underlying25 cells4 h with ⟨hcs, hx⟩ | ⟨a, len, cap, m, n, V, D, Pl, hcs, _, hl, hm, hmm, hx, hcell⟩
  · simp at hcs
    exact ⟨none, 0, [], hcs, fun _ => rfl, fun h => by simp at h, by simp⟩
  · simp at hcs
    have hlm : len ≤ m := by rw [hmm]; split <;> omega
    obtain ⟨F, hF⟩ := choose_lt (α := Bool) (n := len) (p := fun i b => V i = .bool b) (fun i hi => by
      obtain ⟨b, h1, _⟩ := DataW.trod_bool Tryz.underlying4 (hcell i (by omega)).2
      exact ⟨b, by simpa using h1⟩)
    have hlen : ((List.range len).map F).length = len := by simp
    refine ⟨some a, cap, (List.range len).map F, by rw [hcs, hlen], (fun h => by cases h), ?_, by rw [hlen]; omega⟩
    intro h0
    rw [hlen] at h0
    obtain ⟨b, off, spot⟩ := a
    have hspot : spot = none := by simpa [Addr.add] using World.cell?_spot (hcell 0 (by omega)).1
    subst hspot
    refine ⟨b, off, rfl, fun i hi => ?_⟩
    have hi' : i < len := by rw [hlen] at hi; exact hi
    have := (hcell i (by omega)).1
    rw [Addr.add_lit, hF i hi'] at this
    rw [this, List.getElem_map, List.getElem_range]

end
theorem two_cells {α : Type} {cs : Array α} (h : cs.size = 2) : ∃ c0 c1, cs = #[c0, c1] := by
  obtain ⟨l⟩ := cs
  match l, h with
  | [a, b], _ => exact ⟨a, b, rfl⟩
end Go.Proofs.YtkinmangilbeeaaGreatDoor

namespace Go.Proofs.YtkinmangilbeeaaGreatDoor.Pf
open Go.ChangeShapes Go.WideShapes Go.ChangeAt Go.RowKit Go.Deep
set_option maxRecDepth 100000

theorem cellsC : Tryz.prog.cellsOf 24 = 2 := by kernel_rfl
theorem cellsL : Tryz.prog.cellsOf 22 = 1 := by kernel_rfl
theorem cellsI : Tryz.prog.cellsOf 38 = 1 := by kernel_rfl
theorem bytesI : Tryz.prog.bytesOf 38 = 24 := by kernel_rfl

section
variable {H : Type} {enc : TypeId × Value → H} {W : World} {base : Nat} {sp : Nat → Bool} {held : Bool} {fuel : Nat} {v : Value} {x : DataW H × List MemPlace}

theorem in_row (h : DataW.trod enc Tryz.prog W base sp held fuel 38 [v] = some x) : ∃ r : Row, v = r.v ∧ IntsAt W r.at' r.ns ∧ r.ns.length ≤ maxLen := by
  obtain ⟨p, c, l, h1, h2, _⟩ := in_ints h
  refine ⟨⟨p, l, c⟩, h1, h2, ?_⟩
  rcases open_ints Tryz.underlying38 Tryz.underlying3 cells3 h with ⟨hcs, hx⟩ | ⟨a, len, cap, zs, hcs, _, hl, hm, hz, hx, hcell, _⟩
  · simp at hcs
    rw [hcs] at h1
    injection h1 with _ e2 _
    show l.length ≤ maxLen
    unfold maxLen; omega
  · simp at hcs
    rw [hcs] at h1
    injection h1 with _ e2 e3
    show l.length ≤ maxLen
    omega

theorem in_rows (h : DataW.trod enc Tryz.prog W base sp held fuel 22 [v] = some x) :
    ∃ p c rs, v = .slice p (List.length rs) c ∧ (p = none → c = 0) ∧ ClAt W p rs ∧ (∀ r ∈ rs, r.ns.length ≤ maxLen) ∧ ((x.1.weights Tryz.prog 22).all (· ≤ reachBytes) = true → rs.length ≤ 5864062014634) := by
  rcases open_slice1 Tryz.underlying22 cellsI h with ⟨hcs, hx⟩ | ⟨a, len, cap, m, n, V, D, Pl, hcs, _, hl, hm, hmm, hx, hcell⟩
  · simp at hcs
    exact ⟨none, 0, [], hcs, fun _ => rfl, clAt_nil _, fun r hr => by simp at hr, fun _ => by simp⟩
  · simp at hcs
    have hlm : len ≤ m := by rw [hmm]; split <;> omega
    have hinh : Inhabited Row := ⟨⟨none, [], 0⟩⟩
    obtain ⟨F, hF⟩ := choose_lt (α := Row) (n := len) (p := fun i r => V i = r.v ∧ IntsAt W r.at' r.ns ∧ r.ns.length ≤ maxLen) (fun i hi => in_row (hcell i (by omega)).2)
    have hlen : ((List.range len).map F).length = len := by simp
    refine ⟨some a, cap, (List.range len).map F, by rw [hcs, hlen], (fun h => by cases h), ⟨?_, ?_⟩, ?_, ?_⟩
    · intro h0
      rw [hlen] at h0
      obtain ⟨b, off, spot⟩ := a
      have hspot : spot = none := by simpa [Addr.add] using World.cell?_spot (hcell 0 (by omega)).1
      subst hspot
      refine ⟨b, off, rfl, fun i hi => ?_⟩
      have hi' : i < len := by rw [hlen] at hi; exact hi
      have := (hcell i (by omega)).1
      rw [Addr.add_lit, (hF i hi').1] at this
      rw [this, List.getElem_map, List.getElem_range]
    · intro r hr
      obtain ⟨i, hi, rfl⟩ := List.mem_map.1 hr
      exact (hF i (List.mem_range.1 hi)).2.1
    · intro r hr
      obtain ⟨i, hi, rfl⟩ := List.mem_map.1 hr
      exact (hF i (List.mem_range.1 hi)).2.2
    · intro hw
      subst hx
      have := weigh Tryz.underlying22 hw
      rw [bytesI] at this
      simp only [List.length_map, List.length_range, reachBytes] at this
      rw [hlen]
      omega
end

theorem in_clauses {H : Type} {enc : TypeId × Value → H} {W : World} {r : Reach} {b0 base : Nat} {sp : Nat → Bool} {held : Bool} {v : Value} {d : DataW H} {p : List MemPlace}
    (hv : Value.okWide Tryz.prog W r b0 24 v) (h : DataW.Trod enc Tryz.prog W base sp held 24 v d p) :
    ∃ vars q c rs, v = cval vars q (List.length rs) c ∧ (q = none → c = 0) ∧ ClAt W q rs ∧ (∀ r ∈ rs, r.ns.length ≤ maxLen) ∧ ((d.weights Tryz.prog 24).all (· ≤ reachBytes) = true → rs.length ≤ 5864062014634) := by
  obtain ⟨cs, rfl, hsz⟩ := okWide_struct Tryz.underlying24 hv
  obtain ⟨v0, v1, rfl⟩ := two_cells (hsz.trans cellsC)
  obtain ⟨fuel, hf⟩ := h
  simp only [Value.cells] at hf
  obtain ⟨y, m, _, hxy, _, hl, hx⟩ := DataW.trod_struct Tryz.underlying24 hf
  have hl2 : y.length = 2 := hl
  match y, hl2 with
  | [y0, y1], _ =>
    have e0 := hx 0 _ rfl
    have e1 := hx 1 _ rfl
    simp [cells3] at e0
    simp [cellsL] at e1
    obtain ⟨n0, g0, _⟩ := DataW.trod_int Tryz.underlying3 e0
    simp at g0
    subst g0
    obtain ⟨a1, c1, rs, rfl, N1, H1, F1, L1⟩ := in_rows e1
    have hd : d = .agg [y0.1, y1.1] := by simpa using congrArg Prod.fst hxy
    refine ⟨n0, a1, c1, rs, rfl, N1, H1, F1, fun hs => L1 ?_⟩
    rw [hd] at hs
    simp only [DataW.weights, Tryz.underlying24, List.map_cons, List.map_nil, DataW.weightsEach, List.all_append, Bool.and_eq_true] at hs
    exact hs.2.1

theorem cellsA : Tryz.prog.cellsOf 27 = 3 := by kernel_rfl
theorem cellsB : Tryz.prog.cellsOf 25 = 1 := by kernel_rfl
theorem three_cells {α : Type} {cs : Array α} (h : cs.size = 3) : ∃ c0 c1 c2, cs = #[c0, c1, c2] := by
  obtain ⟨l⟩ := cs
  match l, h with
  | [a, b, c], _ => exact ⟨a, b, c, rfl⟩
/-- An answer that comes in. -/
theorem in_answer {H : Type} {enc : TypeId × Value → H} {W : World} {r : Reach} {b0 base : Nat} {sp : Nat → Bool} {held : Bool} {v : Value} {d : DataW H} {p : List MemPlace}
    (hv : Value.okWide Tryz.prog W r b0 27 v) (h : DataW.Trod enc Tryz.prog W base sp held 27 v d p) :
    ∃ n q qc vb a c ps, v = .agg #[.int .i64 n, .slice q (List.length vb) qc, .slice a (List.length ps) c] ∧ BoolsAt W q vb ∧ vb.length ≤ maxLen ∧ (a = none → c = 0) ∧ ClAt W a ps ∧ (∀ r ∈ ps, r.ns.length ≤ maxLen) ∧ ((d.weights Tryz.prog 27).all (· ≤ reachBytes) = true → ps.length ≤ 5864062014634) := by
  obtain ⟨cs, rfl, hsz⟩ := okWide_struct Tryz.underlying27 hv
  obtain ⟨v0, v1, v2, rfl⟩ := three_cells (hsz.trans cellsA)
  obtain ⟨fuel, hf⟩ := h
  simp only [Value.cells] at hf
  obtain ⟨y, m, _, hxy, _, hl, hx⟩ := DataW.trod_struct Tryz.underlying27 hf
  have hl2 : y.length = 3 := hl
  match y, hl2 with
  | [y0, y1, y2], _ =>
    have e0 := hx 0 _ rfl
    have e1 := hx 1 _ rfl
    have e2 := hx 2 _ rfl
    simp [cells3] at e0
    simp [cellsB] at e1
    simp [cellsL] at e2
    obtain ⟨n0, g0, _⟩ := DataW.trod_int Tryz.underlying3 e0
    simp at g0
    subst g0
    obtain ⟨q, qc, vb, rfl, _, B1, B2⟩ := in_bools e1
    obtain ⟨a1, c1, ps, rfl, N1, H1, F1, L1⟩ := in_rows e2
    have hd : d = .agg [y0.1, y1.1, y2.1] := by simpa using congrArg Prod.fst hxy
    refine ⟨n0, q, qc, vb, a1, c1, ps, rfl, B1, B2, N1, H1, F1, fun hs => L1 ?_⟩
    rw [hd] at hs
    simp only [DataW.weights, Tryz.underlying27, List.map_cons, List.map_nil, DataW.weightsEach, List.all_append, Bool.and_eq_true] at hs
    exact hs.2.2.1

end Go.Proofs.YtkinmangilbeeaaGreatDoor.Pf
