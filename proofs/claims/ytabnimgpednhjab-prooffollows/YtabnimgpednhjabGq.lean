/- GatesAnds: the walk (printed by gen_gq.py). -/
import Derived.Test.YtabnimgpednhjabGo
namespace Go.Proofs.Ytabnimgpednhjab
open Go.RowKit Go.Maps Go.WideMaps
set_option maxRecDepth 100000

theorem wfp_nil : WfP [] := fun i h => by simp at h
theorem nil_pairs {w : World} {p : Option Addr} : PairsAt w p [] := fun h => by simp at h
theorem sameG_self (i : Int) (ps : List (Int × Int)) : sameG i i ps ps = true := by simp [sameG]

theorem set2_far {w : World} {B : Nat} {u1 u2 x : Value} {q : Addr} (h : w.cell? q = some x) (hne : q.block ≠ B) : ((w.setCell ⟨B, 0, none⟩ u1).setCell ⟨B, 1, none⟩ u2).cell? q = some x := cell_set_far (cell_set_far h hne) hne
theorem set2_at0 {w : World} {B : Nat} {u1 u2 x : Value} (h : w.cell? ⟨B, 0, none⟩ = some x) : ((w.setCell ⟨B, 0, none⟩ u1).setCell ⟨B, 1, none⟩ u2).cell? ⟨B, 0, none⟩ = some u1 := by
  rw [World.cell?_setCell_other _ _ _ _ (by simp)]; exact World.cell?_setCell_same w _ _ h
theorem set2_at1 {w : World} {B : Nat} {u1 u2 x : Value} (h : w.cell? ⟨B, 1, none⟩ = some x) : ((w.setCell ⟨B, 0, none⟩ u1).setCell ⟨B, 1, none⟩ u2).cell? ⟨B, 1, none⟩ = some u2 := by
  refine World.cell?_setCell_same _ _ _ (u := x) ?_
  rw [World.cell?_setCell_other w _ _ _ (by simp)]; exact h
theorem set2_below {w0 w : World} {B : Nat} {u1 u2 : Value} (h : Below w0.heap.size w0 w) (hB : w0.heap.size ≤ B) : Below w0.heap.size w0 ((w.setCell ⟨B, 0, none⟩ u1).setCell ⟨B, 1, none⟩ u2) := (h.setCell hB u1).setCell hB u2
theorem wf_ref {ps : List (Int × Int)} (h : WfP ps) (x y : Int) (hx : Wf x) (hy : Wf y) : WfP (refPs ps x y) := by
  unfold refPs
  split
  · exact h
  split
  · exact h
  split
  · exact h
  intro i hi
  rw [List.length_append] at hi
  by_cases e : i < ps.length
  · rw [List.getElem_append_left e]; exact h i e
  · rw [List.getElem_append_right (by omega)]
    simp at hi
    obtain rfl : i = ps.length := by omega
    simp
    exact ⟨hx, hy⟩

set_option maxRecDepth 100000 in
set_option maxHeartbeats 8000000 in
theorem ands_walk (ins : Int) (p : Option Addr) (cap : Nat) (hpn : p = none → cap = 0) (ps : List (Int × Int)) (hwf : WfP ps) (hl : ps.length ≤ 8796093021952) (a b : Int) (w : World) (hP : PairsAt w p ps) :
    Calls Try.prog 3 #[gval ins p ps.length cap, .int .i64 a, .int .i64 b] w fun e w' => e = .returned (.bool true) ∧ Below w.heap.size w w' := by
  have hB0 : Below w.heap.size w (w.alloc (.cells #[.int .i64 ins, .slice p ps.length cap] 24)) := bal (Below.refl _ _) _
  have H1 := hide (and_any ins p cap ps hwf (by omega) a b _ (hP.later hB0))
  have HCG := hide (fun (w' : World) (hb : Below w.heap.size w w') => checkGraph_any ins p cap ps hwf (by omega) w' (hP.later hb))
  have HCK := hide (fun (w' : World) (hb : Below w.heap.size w w') => check_any ins p cap ps hwf (by omega) w' (hP.later hb))
  have HB0 := hide hB0
  have HP := hide hP
  have HWF := hide hwf
  have HPN := hide hpn
  clear hP hwf hB0 hpn
  by_cases hc : chkE ins ps = 0
  · obtain ⟨h0, h1, hlen, hst, hd⟩ := chk_zero hc
    have HAE : Hid (andE ins ps a b = if [a, b].any (noLit (2 * (1 + ins + ps.length))) = true then 5 else if andOk ps a b = false then 2 else 0) := by unfold andE; rw [if_neg (by simpa using hc)]; rfl
    have HNL : Hid ([a, b].any (noLit (2 * (1 + ins + ps.length))) = (!isLit (2 * (1 + ins + ps.length)) a || !isLit (2 * (1 + ins + ps.length)) b)) := by rw [two_any]; simp [isLit, Hid]
    rw [hc] at HCG HCK
    clear hc hst hd
    cases hla : isLit (2 * (1 + ins + ps.length)) a
    · have HLA := hide hla
      clear hla
      have HE : Hid (andE ins ps a b = 5) := by rw [HAE.out, HNL.out, HLA.out]; rfl
      obtain ⟨g1, g2, g3⟩ := out_no (ins := ins) (ps := ps) (a := a) (b := b) (show (5 : Int) ≠ 0 by decide)
      unfold AndOut at H1
      rw [HE.out, g1, g2, g3] at H1
      clear g1 g2 g3 HE HAE HNL
      go_enter Try.func3, Try.ntmps3
      go_wp2_with fail
      refine H1.out.mono ?_
      rintro e w1 ⟨⟨pv, cv, rfl, hpx⟩, hb1⟩
      have q0 := cell_later hb1 (a := ⟨w.heap.size, 0, none⟩) (v := .int .i64 ins) (by simp [go_sem])
      have q1 := cell_later hb1 (a := ⟨w.heap.size, 1, none⟩) (v := .slice p ps.length cap) (by simp [go_sem])
      have q0a := fun o => past1 q0 o
      have q1a := fun o => past1 q1 o
      have hbX : Below w1.heap.size w1 (w1.alloc (.cells #[.int .i64 0, .slice pv 0 cv] 24)) := bal (Below.refl _ _) _
      have HB1 := hide (bthen (bthen HB0.out hb1) hbX)
      have HPX := hide (hpx.later hbX)
      clear hb1 H1 hpx
      go_wp2_with fail
      refine (HCG.out _ HB1.out).mono ?_
      rintro e w2 ⟨rfl, hb2⟩
      have q0' := cell_later (bthen hbX hb2) q0
      have q1' := cell_later (bthen hbX hb2) q1
      have x0 := cell_later hb2 (a := ⟨w1.heap.size, 0, none⟩) (v := .int .i64 0) (by simp [go_sem])
      have x1 := cell_later hb2 (a := ⟨w1.heap.size, 1, none⟩) (v := .slice pv 0 cv) (by simp [go_sem])
      have HPX2 := hide (HPX.out.later hb2)
      have hbY : Below w2.heap.size w2 (w2.alloc (.cells #[.int .i64 0, .slice none 0 0] 24)) := bal (Below.refl _ _) _
      have HB1b := hide (bthen HB1.out hb2)
      have q0b := fun o => past1 q0' o
      have q1b := fun o => past1 q1' o
      clear hb2 q0 q1 q0a q1a hbX HB1 HCG HPX
      go_wp2_with fail
      refine (isLit_any ins p ps.length cap a h0 h1 (by omega) _).mono ?_
      rintro e wA ⟨rfl, hbA⟩
      rw [HLA.out]
      have hbZ := bthen hbY hbA
      have zz0 := cell_later hbA (a := ⟨w2.heap.size, 0, none⟩) (v := .int .i64 0) (by simp [go_sem])
      have zz1 := cell_later hbA (a := ⟨w2.heap.size, 1, none⟩) (v := .slice none 0 0) (by simp [go_sem])
      have qq0 := cell_later hbZ q0'
      have qq1 := cell_later hbZ q1'
      have xx0 := cell_later hbZ x0
      have xx1 := cell_later hbZ x1
      have HBX := hide (bthen HB1b.out hbZ)
      have HPXX := hide (HPX2.out.later hbZ)
      have HPYY : Hid (PairsAt wA none []) := nil_pairs
      clear hbA hbZ hbY q0' q1' q0b q1b x0 x1 HB1b HPX2
      go_wp2_with fail
      refine (begun_any _).mono ?_
      rintro e w3 ⟨rfl, hb3⟩
      have r0 := cell_later hb3 qq0
      have r1 := cell_later hb3 qq1
      have y0 := cell_later hb3 xx0
      have y1 := cell_later hb3 xx1
      have z0 := cell_later hb3 zz0
      have z1 := cell_later hb3 zz1
      have HB3 := hide (bthen HBX.out hb3)
      have HPX3 := hide (HPXX.out.later hb3)
      have HPY3 := hide (HPYY.out.later hb3)
      clear hb3 qq0 qq1 xx0 xx1 zz0 zz1 HBX HPXX HPYY
      go_wp2_with fail
      refine (HCK.out _ HB3.out).mono ?_
      rintro e w4 ⟨rfl, hb4⟩
      have s0 := cell_later hb4 y0
      have s1 := cell_later hb4 y1
      have t0 := cell_later hb4 z0
      have t1 := cell_later hb4 z1
      have HB4 := hide (bthen HB3.out hb4)
      have HSG := hide (sameGraph_any 0 0 [] [] wfp_nil wfp_nil pv none cv 0 (by simp) w4 (HPX3.out.later hb4) (HPY3.out.later hb4))
      rw [sameG_self] at HSG
      clear hb4 r0 r1 y0 y1 z0 z1 HB3 HCK HPX3 HPY3
      go_wp2_with fail
      refine HSG.out.mono ?_
      rintro e w5 ⟨rfl, hb5⟩
      have HB5 := hide (bthen HB4.out hb5)
      clear hb5 HB4 HSG
      go_wp2
      go_ret
      exact ⟨rfl, HB5.out⟩
    cases hlb : isLit (2 * (1 + ins + ps.length)) b
    · have HLA := hide hla
      have HLB := hide hlb
      clear hla hlb
      have HE : Hid (andE ins ps a b = 5) := by rw [HAE.out, HNL.out, HLA.out, HLB.out]; rfl
      obtain ⟨g1, g2, g3⟩ := out_no (ins := ins) (ps := ps) (a := a) (b := b) (show (5 : Int) ≠ 0 by decide)
      unfold AndOut at H1
      rw [HE.out, g1, g2, g3] at H1
      clear g1 g2 g3 HE HAE HNL
      go_enter Try.func3, Try.ntmps3
      go_wp2_with fail
      refine H1.out.mono ?_
      rintro e w1 ⟨⟨pv, cv, rfl, hpx⟩, hb1⟩
      have q0 := cell_later hb1 (a := ⟨w.heap.size, 0, none⟩) (v := .int .i64 ins) (by simp [go_sem])
      have q1 := cell_later hb1 (a := ⟨w.heap.size, 1, none⟩) (v := .slice p ps.length cap) (by simp [go_sem])
      have q0a := fun o => past1 q0 o
      have q1a := fun o => past1 q1 o
      have hbX : Below w1.heap.size w1 (w1.alloc (.cells #[.int .i64 0, .slice pv 0 cv] 24)) := bal (Below.refl _ _) _
      have HB1 := hide (bthen (bthen HB0.out hb1) hbX)
      have HPX := hide (hpx.later hbX)
      clear hb1 H1 hpx
      go_wp2_with fail
      refine (HCG.out _ HB1.out).mono ?_
      rintro e w2 ⟨rfl, hb2⟩
      have q0' := cell_later (bthen hbX hb2) q0
      have q1' := cell_later (bthen hbX hb2) q1
      have x0 := cell_later hb2 (a := ⟨w1.heap.size, 0, none⟩) (v := .int .i64 0) (by simp [go_sem])
      have x1 := cell_later hb2 (a := ⟨w1.heap.size, 1, none⟩) (v := .slice pv 0 cv) (by simp [go_sem])
      have HPX2 := hide (HPX.out.later hb2)
      have hbY : Below w2.heap.size w2 (w2.alloc (.cells #[.int .i64 0, .slice none 0 0] 24)) := bal (Below.refl _ _) _
      have HB1b := hide (bthen HB1.out hb2)
      have q0b := fun o => past1 q0' o
      have q1b := fun o => past1 q1' o
      clear hb2 q0 q1 q0a q1a hbX HB1 HCG HPX
      go_wp2_with fail
      refine (isLit_any ins p ps.length cap a h0 h1 (by omega) _).mono ?_
      rintro e wA ⟨rfl, hbA⟩
      rw [HLA.out]
      have qA0 := cell_later (bthen hbY hbA) q0'
      have qA1 := cell_later (bthen hbY hbA) q1'
      go_wp2_with fail
      refine (isLit_any ins p ps.length cap b h0 h1 (by omega) _).mono ?_
      rintro e wB ⟨rfl, hbB⟩
      rw [HLB.out]
      have hbZ := bthen (bthen hbY hbA) hbB
      have zz0 := cell_later (bthen hbA hbB) (a := ⟨w2.heap.size, 0, none⟩) (v := .int .i64 0) (by simp [go_sem])
      have zz1 := cell_later (bthen hbA hbB) (a := ⟨w2.heap.size, 1, none⟩) (v := .slice none 0 0) (by simp [go_sem])
      have qq0 := cell_later hbZ q0'
      have qq1 := cell_later hbZ q1'
      have xx0 := cell_later hbZ x0
      have xx1 := cell_later hbZ x1
      have HBX := hide (bthen HB1b.out hbZ)
      have HPXX := hide (HPX2.out.later hbZ)
      have HPYY : Hid (PairsAt wB none []) := nil_pairs
      clear hbA hbB hbZ hbY q0' q1' q0b q1b x0 x1 HB1b HPX2 qA0 qA1
      go_wp2_with fail
      refine (begun_any _).mono ?_
      rintro e w3 ⟨rfl, hb3⟩
      have r0 := cell_later hb3 qq0
      have r1 := cell_later hb3 qq1
      have y0 := cell_later hb3 xx0
      have y1 := cell_later hb3 xx1
      have z0 := cell_later hb3 zz0
      have z1 := cell_later hb3 zz1
      have HB3 := hide (bthen HBX.out hb3)
      have HPX3 := hide (HPXX.out.later hb3)
      have HPY3 := hide (HPYY.out.later hb3)
      clear hb3 qq0 qq1 xx0 xx1 zz0 zz1 HBX HPXX HPYY
      go_wp2_with fail
      refine (HCK.out _ HB3.out).mono ?_
      rintro e w4 ⟨rfl, hb4⟩
      have s0 := cell_later hb4 y0
      have s1 := cell_later hb4 y1
      have t0 := cell_later hb4 z0
      have t1 := cell_later hb4 z1
      have HB4 := hide (bthen HB3.out hb4)
      have HSG := hide (sameGraph_any 0 0 [] [] wfp_nil wfp_nil pv none cv 0 (by simp) w4 (HPX3.out.later hb4) (HPY3.out.later hb4))
      rw [sameG_self] at HSG
      clear hb4 r0 r1 y0 y1 z0 z1 HB3 HCK HPX3 HPY3
      go_wp2_with fail
      refine HSG.out.mono ?_
      rintro e w5 ⟨rfl, hb5⟩
      have HB5 := hide (bthen HB4.out hb5)
      clear hb5 HB4 HSG
      go_wp2
      go_ret
      exact ⟨rfl, HB5.out⟩
    have hbd : 0 ≤ a ∧ a < 2 * (1 + ins + ps.length) ∧ 0 ≤ b ∧ b < 2 * (1 + ins + ps.length) := by
      simp [isLit, noLit] at hla hlb
      omega
    have HLA := hide hla
    have HLB := hide hlb
    clear hla hlb
    cases hok : andOk ps a b
    · have HOK := hide hok
      clear hok
      have HE : Hid (andE ins ps a b = 2) := by rw [HAE.out, HNL.out, HLA.out, HLB.out, HOK.out]; rfl
      obtain ⟨g1, g2, g3⟩ := out_no (ins := ins) (ps := ps) (a := a) (b := b) (show (2 : Int) ≠ 0 by decide)
      unfold AndOut at H1
      rw [HE.out, g1, g2, g3] at H1
      clear g1 g2 g3 HE HAE HNL
      go_enter Try.func3, Try.ntmps3
      go_wp2_with fail
      refine H1.out.mono ?_
      rintro e w1 ⟨⟨pv, cv, rfl, hpx⟩, hb1⟩
      have q0 := cell_later hb1 (a := ⟨w.heap.size, 0, none⟩) (v := .int .i64 ins) (by simp [go_sem])
      have q1 := cell_later hb1 (a := ⟨w.heap.size, 1, none⟩) (v := .slice p ps.length cap) (by simp [go_sem])
      have q0a := fun o => past1 q0 o
      have q1a := fun o => past1 q1 o
      have hbX : Below w1.heap.size w1 (w1.alloc (.cells #[.int .i64 0, .slice pv 0 cv] 24)) := bal (Below.refl _ _) _
      have HB1 := hide (bthen (bthen HB0.out hb1) hbX)
      have HPX := hide (hpx.later hbX)
      clear hb1 H1 hpx
      go_wp2_with fail
      refine (HCG.out _ HB1.out).mono ?_
      rintro e w2 ⟨rfl, hb2⟩
      have q0' := cell_later (bthen hbX hb2) q0
      have q1' := cell_later (bthen hbX hb2) q1
      have x0 := cell_later hb2 (a := ⟨w1.heap.size, 0, none⟩) (v := .int .i64 0) (by simp [go_sem])
      have x1 := cell_later hb2 (a := ⟨w1.heap.size, 1, none⟩) (v := .slice pv 0 cv) (by simp [go_sem])
      have HPX2 := hide (HPX.out.later hb2)
      have hbY : Below w2.heap.size w2 (w2.alloc (.cells #[.int .i64 0, .slice none 0 0] 24)) := bal (Below.refl _ _) _
      have HB1b := hide (bthen HB1.out hb2)
      have q0b := fun o => past1 q0' o
      have q1b := fun o => past1 q1' o
      clear hb2 q0 q1 q0a q1a hbX HB1 HCG HPX
      go_wp2_with fail
      refine (isLit_any ins p ps.length cap a h0 h1 (by omega) _).mono ?_
      rintro e wA ⟨rfl, hbA⟩
      rw [HLA.out]
      have qA0 := cell_later (bthen hbY hbA) q0'
      have qA1 := cell_later (bthen hbY hbA) q1'
      go_wp2_with fail
      refine (isLit_any ins p ps.length cap b h0 h1 (by omega) _).mono ?_
      rintro e wB ⟨rfl, hbB⟩
      rw [HLB.out]
      have qB0 := cell_later hbB qA0
      have qB1 := cell_later hbB qA1
      have HAO := hide (andOf_any ins p cap HPN.out ps HWF.out hlen h0 h1 a b hbd.1 (by omega) hbd.2.2.1 (by omega) wB (HP.out.later (bthen HB1b.out (bthen (bthen hbY hbA) hbB))))
      clear qA0 qA1
      go_wp2_with fail
      refine HAO.out.mono ?_
      rintro e wC ⟨pv2, cv2, rfl, hpC, hbC, hwh⟩
      have hbZ := bthen (bthen (bthen hbY hbA) hbB) hbC
      have hsz2 : w2.heap.size < wB.heap.size := by have := (bthen hbA hbB).size; simp at this; omega
      have hszp := HB1b.out.size
      have HNE2 : Hid (∀ bb off, pv2 = some ⟨bb, off, none⟩ → 0 < (refPs ps (min a b) (max a b)).length → bb ≠ w2.heap.size) := fun bb off e h => by
        rcases hwh with ⟨h2, h3⟩ | h2
        · have := pairs_lt HP.out bb off (h2 ▸ e) (by rw [← h3]; exact h); omega
        · have := h2 bb off e; omega
      have hb5 := bthen (bthen hbA hbB) hbC
      have z0 := cell_later hb5 (a := ⟨w2.heap.size, 0, none⟩) (v := .int .i64 0) (by simp [go_sem])
      have z1 := cell_later hb5 (a := ⟨w2.heap.size, 1, none⟩) (v := .slice none 0 0) (by simp [go_sem])
      have zf : ∀ i, wC.frozen? ⟨w2.heap.size, i, none⟩ = false := fun i => by rw [hb5.frozen (by simp)]; simp [go_sem]
      have k0 := cell_later hbZ q0'
      have k1 := cell_later hbZ q1'
      have l0 := cell_later hbZ x0
      have l1 := cell_later hbZ x1
      have HBZ := hide (bthen HB1b.out hbZ)
      have HPXZ := hide (HPX2.out.later hbZ)
      have HXLT := hide (pairs_lt HPX2.out)
      have hne0 : w.heap.size ≠ w2.heap.size := fun e => by have := World.block_lt_of_cell? _ _ q0'; simp only at this; omega
      have hne1 : w1.heap.size ≠ w2.heap.size := fun e => by have := World.block_lt_of_cell? _ _ x0; simp only at this; omega
      have HPC := hide hpC
      clear hbA hbB hbC hbZ hbY hb5 q0' q1' q0b q1b x0 x1 HB1b HPX2 qB0 qB1 HAO hpC hwh
      generalize hqs : refPs ps (min a b) (max a b) = qs at *
      have HGT : Hid (1000000 < qs.length) := by rw [← hqs]; exact (and_ref ins ps _ _ hlen).2 HOK.out
      have hgt : (1000000 : Int) < (qs.length : Int) := by have := HGT.out; omega
      clear hqs
      have qq0 := fun u1 u2 => set2_far (u1 := .int .i64 0) (u2 := .slice none 0 0) (set2_far (u1 := u1) (u2 := u2) k0 hne0) hne0
      have qq1 := fun u1 u2 => set2_far (u1 := .int .i64 0) (u2 := .slice none 0 0) (set2_far (u1 := u1) (u2 := u2) k1 hne0) hne0
      have xx0 := fun u1 u2 => set2_far (u1 := .int .i64 0) (u2 := .slice none 0 0) (set2_far (u1 := u1) (u2 := u2) l0 hne1) hne1
      have xx1 := fun u1 u2 => set2_far (u1 := .int .i64 0) (u2 := .slice none 0 0) (set2_far (u1 := u1) (u2 := u2) l1 hne1) hne1
      have zz0 := fun u1 u2 => set2_at0 (u1 := .int .i64 0) (u2 := .slice none 0 0) (set2_at0 (u1 := u1) (u2 := u2) z0)
      have zz1 := fun u1 u2 => set2_at1 (u1 := .int .i64 0) (u2 := .slice none 0 0) (set2_at1 (u1 := u1) (u2 := u2) z1)
      have HBX := hide (fun u1 u2 => set2_below (u1 := .int .i64 0) (u2 := .slice none 0 0) (set2_below (u1 := u1) (u2 := u2) HBZ.out hszp) hszp)
      go_wp2_with fail
      refine (begun_any _).mono ?_
      rintro e w3 ⟨rfl, hb3⟩
      have r0 := cell_later hb3 (qq0 _ _)
      have r1 := cell_later hb3 (qq1 _ _)
      have y0 := cell_later hb3 (xx0 _ _)
      have y1 := cell_later hb3 (xx1 _ _)
      have v0 := cell_later hb3 (zz0 _ _)
      have v1 := cell_later hb3 (zz1 _ _)
      have HB3 := hide (bthen (HBX.out _ _) hb3)
      have HPX3 : Hid (PairsAt w3 pv []) := nil_pairs
      have HPY3 : Hid (PairsAt w3 none []) := nil_pairs
      clear hb3 qq0 qq1 xx0 xx1 zz0 zz1 HBX z0 z1 zf k0 k1 l0 l1
      go_wp2_with fail
      refine (HCK.out _ HB3.out).mono ?_
      rintro e w4 ⟨rfl, hb4⟩
      have s0 := cell_later hb4 y0
      have s1 := cell_later hb4 y1
      have t0 := cell_later hb4 v0
      have t1 := cell_later hb4 v1
      have HB4 := hide (bthen HB3.out hb4)
      have HSG := hide (sameGraph_any 0 0 [] [] wfp_nil wfp_nil pv none cv 0 (by simp) w4 (HPX3.out.later hb4) (HPY3.out.later hb4))
      rw [sameG_self] at HSG
      clear hb4 r0 r1 y0 y1 v0 v1 HB3 HCK HPX3 HPY3
      go_wp2_with fail
      refine HSG.out.mono ?_
      rintro e w5 ⟨rfl, hb5⟩
      have HB5 := hide (bthen HB4.out hb5)
      clear hb5 HB4 HSG
      go_wp2
      go_ret
      exact ⟨rfl, HB5.out⟩
    · have HOK := hide hok
      clear hok
      have hmk := (and_ref ins ps (min a b) (max a b) hlen).1 HOK.out
      have HE : Hid (andE ins ps a b = 0) := by rw [HAE.out, HNL.out, HLA.out, HLB.out, HOK.out]; rfl
      obtain ⟨g1, g2, g3⟩ := out_ok (ins := ins) (ps := ps) (a := a) (b := b)
      have g4 : andPs ps a b = refPs ps (min a b) (max a b) := hmk.1
      have g5 : andLit ins ps a b = refLit ins ps (min a b) (max a b) := hmk.2.1
      have HWQ := hide (wf_ref HWF.out (min a b) (max a b) ⟨by omega, by omega⟩ ⟨by omega, by omega⟩)
      have hle := hmk.2.2
      unfold AndOut at H1
      rw [HE.out, g1, g2, g3, g4, g5] at H1
      clear g1 g2 g3 g4 g5 HE HAE HNL hmk
      go_enter Try.func3, Try.ntmps3
      go_wp2_with fail
      refine H1.out.mono ?_
      rintro e w1 ⟨⟨pv, cv, rfl, hpx⟩, hb1⟩
      have q0 := cell_later hb1 (a := ⟨w.heap.size, 0, none⟩) (v := .int .i64 ins) (by simp [go_sem])
      have q1 := cell_later hb1 (a := ⟨w.heap.size, 1, none⟩) (v := .slice p ps.length cap) (by simp [go_sem])
      have q0a := fun o => past1 q0 o
      have q1a := fun o => past1 q1 o
      have hbX : Below w1.heap.size w1 (w1.alloc (.cells #[.int .i64 ins, .slice pv (refPs ps (min a b) (max a b)).length cv] 24)) := bal (Below.refl _ _) _
      have HB1 := hide (bthen (bthen HB0.out hb1) hbX)
      have HPX := hide (hpx.later hbX)
      clear hb1 H1 hpx
      go_wp2_with fail
      refine (HCG.out _ HB1.out).mono ?_
      rintro e w2 ⟨rfl, hb2⟩
      have q0' := cell_later (bthen hbX hb2) q0
      have q1' := cell_later (bthen hbX hb2) q1
      have x0 := cell_later hb2 (a := ⟨w1.heap.size, 0, none⟩) (v := .int .i64 ins) (by simp [go_sem])
      have x1 := cell_later hb2 (a := ⟨w1.heap.size, 1, none⟩) (v := .slice pv (refPs ps (min a b) (max a b)).length cv) (by simp [go_sem])
      have HPX2 := hide (HPX.out.later hb2)
      have hbY : Below w2.heap.size w2 (w2.alloc (.cells #[.int .i64 0, .slice none 0 0] 24)) := bal (Below.refl _ _) _
      have HB1b := hide (bthen HB1.out hb2)
      have q0b := fun o => past1 q0' o
      have q1b := fun o => past1 q1' o
      clear hb2 q0 q1 q0a q1a hbX HB1 HCG HPX
      go_wp2_with fail
      refine (isLit_any ins p ps.length cap a h0 h1 (by omega) _).mono ?_
      rintro e wA ⟨rfl, hbA⟩
      rw [HLA.out]
      have qA0 := cell_later (bthen hbY hbA) q0'
      have qA1 := cell_later (bthen hbY hbA) q1'
      go_wp2_with fail
      refine (isLit_any ins p ps.length cap b h0 h1 (by omega) _).mono ?_
      rintro e wB ⟨rfl, hbB⟩
      rw [HLB.out]
      have qB0 := cell_later hbB qA0
      have qB1 := cell_later hbB qA1
      have HAO := hide (andOf_any ins p cap HPN.out ps HWF.out hlen h0 h1 a b hbd.1 (by omega) hbd.2.2.1 (by omega) wB (HP.out.later (bthen HB1b.out (bthen (bthen hbY hbA) hbB))))
      clear qA0 qA1
      go_wp2_with fail
      refine HAO.out.mono ?_
      rintro e wC ⟨pv2, cv2, rfl, hpC, hbC, hwh⟩
      have hbZ := bthen (bthen (bthen hbY hbA) hbB) hbC
      have hsz2 : w2.heap.size < wB.heap.size := by have := (bthen hbA hbB).size; simp at this; omega
      have hszp := HB1b.out.size
      have HNE2 : Hid (∀ bb off, pv2 = some ⟨bb, off, none⟩ → 0 < (refPs ps (min a b) (max a b)).length → bb ≠ w2.heap.size) := fun bb off e h => by
        rcases hwh with ⟨h2, h3⟩ | h2
        · have := pairs_lt HP.out bb off (h2 ▸ e) (by rw [← h3]; exact h); omega
        · have := h2 bb off e; omega
      have hb5 := bthen (bthen hbA hbB) hbC
      have z0 := cell_later hb5 (a := ⟨w2.heap.size, 0, none⟩) (v := .int .i64 0) (by simp [go_sem])
      have z1 := cell_later hb5 (a := ⟨w2.heap.size, 1, none⟩) (v := .slice none 0 0) (by simp [go_sem])
      have zf : ∀ i, wC.frozen? ⟨w2.heap.size, i, none⟩ = false := fun i => by rw [hb5.frozen (by simp)]; simp [go_sem]
      have k0 := cell_later hbZ q0'
      have k1 := cell_later hbZ q1'
      have l0 := cell_later hbZ x0
      have l1 := cell_later hbZ x1
      have HBZ := hide (bthen HB1b.out hbZ)
      have HPXZ := hide (HPX2.out.later hbZ)
      have HXLT := hide (pairs_lt HPX2.out)
      have hne0 : w.heap.size ≠ w2.heap.size := fun e => by have := World.block_lt_of_cell? _ _ q0'; simp only at this; omega
      have hne1 : w1.heap.size ≠ w2.heap.size := fun e => by have := World.block_lt_of_cell? _ _ x0; simp only at this; omega
      have HPC := hide hpC
      clear hbA hbB hbC hbZ hbY hb5 q0' q1' q0b q1b x0 x1 HB1b HPX2 qB0 qB1 HAO hpC hwh
      generalize hqs : refPs ps (min a b) (max a b) = qs at *
      clear hqs
      generalize refLit ins ps (min a b) (max a b) = rl at *
      have qq0 := set2_far (u1 := .int .i64 ins) (u2 := .slice pv2 qs.length cv2) k0 hne0
      have qq1 := set2_far (u1 := .int .i64 ins) (u2 := .slice pv2 qs.length cv2) k1 hne0
      have xx0 := set2_far (u1 := .int .i64 ins) (u2 := .slice pv2 qs.length cv2) l0 hne1
      have xx1 := set2_far (u1 := .int .i64 ins) (u2 := .slice pv2 qs.length cv2) l1 hne1
      have zz0 := set2_at0 (u1 := .int .i64 ins) (u2 := .slice pv2 qs.length cv2) z0
      have zz1 := set2_at1 (u1 := .int .i64 ins) (u2 := .slice pv2 qs.length cv2) z1
      have HBX := hide (set2_below (u1 := .int .i64 ins) (u2 := .slice pv2 qs.length cv2) HBZ.out hszp)
      have HPXX : Hid (PairsAt ((wC.setCell ⟨w2.heap.size, 0, none⟩ (.int .i64 ins)).setCell ⟨w2.heap.size, 1, none⟩ (.slice pv2 qs.length cv2)) pv qs) := pairs_far (pairs_far HPXZ.out (fun bb off e h => by have := HXLT.out bb off e h; simp; omega)) (fun bb off e h => by have := HXLT.out bb off e h; simp; omega)
      have HPYY : Hid (PairsAt ((wC.setCell ⟨w2.heap.size, 0, none⟩ (.int .i64 ins)).setCell ⟨w2.heap.size, 1, none⟩ (.slice pv2 qs.length cv2)) pv2 qs) := pairs_far (pairs_far HPC.out (fun bb off e h => HNE2.out bb off e h)) (fun bb off e h => HNE2.out bb off e h)
      go_wp2_with fail
      refine (begun_any _).mono ?_
      rintro e w3 ⟨rfl, hb3⟩
      have r0 := cell_later hb3 qq0
      have r1 := cell_later hb3 qq1
      have y0 := cell_later hb3 xx0
      have y1 := cell_later hb3 xx1
      have z0 := cell_later hb3 zz0
      have z1 := cell_later hb3 zz1
      have HB3 := hide (bthen HBX.out hb3)
      have HPX3 := hide (HPXX.out.later hb3)
      have HPY3 := hide (HPYY.out.later hb3)
      clear hb3 qq0 qq1 xx0 xx1 zz0 zz1 HBX HPXX HPYY k0 k1 l0 l1 zf
      go_wp2_with fail
      refine (HCK.out _ HB3.out).mono ?_
      rintro e w4 ⟨rfl, hb4⟩
      have s0 := cell_later hb4 y0
      have s1 := cell_later hb4 y1
      have t0 := cell_later hb4 z0
      have t1 := cell_later hb4 z1
      have HB4 := hide (bthen HB3.out hb4)
      have HSG := hide (sameGraph_any ins ins qs qs HWQ.out HWQ.out pv pv2 cv cv2 (by omega) w4 (HPX3.out.later hb4) (HPY3.out.later hb4))
      rw [sameG_self] at HSG
      clear hb4 r0 r1 y0 y1 z0 z1 HB3 HCK HPX3 HPY3
      go_wp2_with fail
      refine HSG.out.mono ?_
      rintro e w5 ⟨rfl, hb5⟩
      have HB5 := hide (bthen HB4.out hb5)
      clear hb5 HB4 HSG
      go_wp2
      go_ret
      exact ⟨rfl, HB5.out⟩
  · have HE : Hid (andE ins ps a b = chkE ins ps) := by unfold andE; rw [if_pos hc]; rfl
    obtain ⟨g1, g2, g3⟩ := out_no (ins := ins) (ps := ps) (a := a) (b := b) hc
    unfold AndOut at H1
    rw [HE.out, g1, g2, g3] at H1
    have hc' : (chkE ins ps == 0) = false := by simpa using hc
    clear hc g1 g2 g3 HE
    generalize chkE ins ps = R at *
    go_enter Try.func3, Try.ntmps3
    go_wp2_with fail
    refine H1.out.mono ?_
    rintro e w1 ⟨⟨pv, cv, rfl, hpx⟩, hb1⟩
    have q0 := cell_later hb1 (a := ⟨w.heap.size, 0, none⟩) (v := .int .i64 ins) (by simp [go_sem])
    have q1 := cell_later hb1 (a := ⟨w.heap.size, 1, none⟩) (v := .slice p ps.length cap) (by simp [go_sem])
    have q0a := fun o => past1 q0 o
    have q1a := fun o => past1 q1 o
    have hbX : Below w1.heap.size w1 (w1.alloc (.cells #[.int .i64 0, .slice pv 0 cv] 24)) := bal (Below.refl _ _) _
    have HB1 := hide (bthen (bthen HB0.out hb1) hbX)
    have HPX := hide (hpx.later hbX)
    clear hb1 H1 hpx
    go_wp2_with fail
    refine (HCG.out _ HB1.out).mono ?_
    rintro e w2 ⟨rfl, hb2⟩
    have q0' := cell_later (bthen hbX hb2) q0
    have q1' := cell_later (bthen hbX hb2) q1
    have x0 := cell_later hb2 (a := ⟨w1.heap.size, 0, none⟩) (v := .int .i64 0) (by simp [go_sem])
    have x1 := cell_later hb2 (a := ⟨w1.heap.size, 1, none⟩) (v := .slice pv 0 cv) (by simp [go_sem])
    have HPX2 := hide (HPX.out.later hb2)
    have hbY : Below w2.heap.size w2 (w2.alloc (.cells #[.int .i64 0, .slice none 0 0] 24)) := bal (Below.refl _ _) _
    have HB1b := hide (bthen HB1.out hb2)
    have q0b := fun o => past1 q0' o
    have q1b := fun o => past1 q1' o
    clear hb2 q0 q1 q0a q1a hbX HB1 HCG HPX
    have zz0 : (w2.alloc (.cells #[.int .i64 0, .slice none 0 0] 24)).cell? ⟨w2.heap.size, 0, none⟩ = some (.int .i64 0) := by simp [go_sem]
    have zz1 : (w2.alloc (.cells #[.int .i64 0, .slice none 0 0] 24)).cell? ⟨w2.heap.size, 1, none⟩ = some (.slice none 0 0) := by simp [go_sem]
    have qq0 := cell_later hbY q0'
    have qq1 := cell_later hbY q1'
    have xx0 := cell_later hbY x0
    have xx1 := cell_later hbY x1
    have HBX := hide (bthen HB1b.out hbY)
    have HPXX := hide (HPX2.out.later hbY)
    have HPYY : Hid (PairsAt (w2.alloc (.cells #[.int .i64 0, .slice none 0 0] 24)) none []) := nil_pairs
    clear hbY q0' q1' q0b q1b x0 x1 HB1b HPX2
    go_wp2_with fail
    refine (begun_any _).mono ?_
    rintro e w3 ⟨rfl, hb3⟩
    have r0 := cell_later hb3 qq0
    have r1 := cell_later hb3 qq1
    have y0 := cell_later hb3 xx0
    have y1 := cell_later hb3 xx1
    have z0 := cell_later hb3 zz0
    have z1 := cell_later hb3 zz1
    have HB3 := hide (bthen HBX.out hb3)
    have HPX3 := hide (HPXX.out.later hb3)
    have HPY3 := hide (HPYY.out.later hb3)
    clear hb3 qq0 qq1 xx0 xx1 zz0 zz1 HBX HPXX HPYY
    go_wp2_with fail
    refine (HCK.out _ HB3.out).mono ?_
    rintro e w4 ⟨rfl, hb4⟩
    have s0 := cell_later hb4 y0
    have s1 := cell_later hb4 y1
    have t0 := cell_later hb4 z0
    have t1 := cell_later hb4 z1
    have HB4 := hide (bthen HB3.out hb4)
    have HSG := hide (sameGraph_any 0 0 [] [] wfp_nil wfp_nil pv none cv 0 (by simp) w4 (HPX3.out.later hb4) (HPY3.out.later hb4))
    rw [sameG_self] at HSG
    clear hb4 r0 r1 y0 y1 z0 z1 HB3 HCK HPX3 HPY3
    go_wp2_with fail
    refine HSG.out.mono ?_
    rintro e w5 ⟨rfl, hb5⟩
    have HB5 := hide (bthen HB4.out hb5)
    clear hb5 HB4 HSG
    go_wp2
    go_ret
    exact ⟨rfl, HB5.out⟩

end Go.Proofs.Ytabnimgpednhjab
