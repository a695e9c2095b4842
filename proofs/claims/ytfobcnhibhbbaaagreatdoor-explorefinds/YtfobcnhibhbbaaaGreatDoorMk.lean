/- Inits and Nexts are checked. -/
import Derived.Test.YtfobcnhibhbbaaaGreatDoorMjM
namespace Go.Proofs.YtfobcnhibhbbaaaGreatDoor.Ev
open Go.RowKit
set_option maxRecDepth 100000


/-- The first that is not 0. -/
def firstE (f : Int × Int → Int) : List (Int × Int) → Int
  | [] => 0
  | p :: l => if f p ≠ 0 then f p else firstE f l

theorem firstE_hit (f : Int × Int → Int) (l : List (Int × Int)) (k : Nat) (hk : k < l.length) (h : ∀ i (hi : i < l.length), i < k → f l[i] = 0) (hf : f l[k] ≠ 0) : firstE f l = f l[k] := by
  induction l generalizing k with
  | nil => simp at hk
  | cons a l ih =>
    cases k with
    | zero =>
      simp only [List.getElem_cons_zero] at hf ⊢
      simp only [firstE]
      rw [if_pos hf]
    | succ k =>
      have h0 := h 0 (by simp) (by omega)
      simp only [List.getElem_cons_zero] at h0
      simp only [firstE]
      rw [if_neg (by simp [h0])]
      exact ih k (by simpa using hk) (fun i hi hik => by have := h (i + 1) (by simpa using hi) (by omega); simpa using this) (by simpa using hf)

theorem firstE_miss (f : Int × Int → Int) (l : List (Int × Int)) (h : ∀ i (hi : i < l.length), f l[i] = 0) : firstE f l = 0 := by
  induction l with
  | nil => rfl
  | cons a l ih =>
    have h0 := h 0 (by simp)
    simp only [List.getElem_cons_zero] at h0
    simp only [firstE]
    rw [if_neg (by simp [h0])]
    exact ih (fun i hi => by have := h (i + 1) (by simpa using hi); simpa using this)

def initE (ns : List Nd) (p : Int × Int) : Int := if pairE ns p.1 p.2 ≠ 0 then pairE ns p.1 p.2 else if (hgs ns ns.length).getD p.2.toNat false then 4 else 0
def nextE (ns : List Nd) (p : Int × Int) : Int := pairE ns p.1 p.2

def pairsE (ns : List Nd) (is xs : List (Int × Int)) : Int :=
  if firstE (initE ns) is ≠ 0 then firstE (initE ns) is else if firstE (nextE ns) xs ≠ 0 then firstE (nextE ns) xs else if dup (fsts is) || dup (fsts xs) then 6 else 0

theorem pairE_zero {ns : List Nd} {s x : Int} (h : pairE ns s x = 0) : (0 ≤ s ∧ s < ns.length) ∧ (0 ≤ x ∧ x < ns.length) ∧ kdOf ns s = 3 ∧ wdOf ns s = wdOf ns x := by
  unfold pairE at h
  by_cases h1 : isN ns.length s = false ∨ kdOf ns s ≠ 3 ∨ isN ns.length x = false
  · rw [if_pos h1] at h; omega
  rw [if_neg h1] at h
  by_cases h2 : wdOf ns s ≠ wdOf ns x
  · rw [if_pos h2] at h; omega
  refine ⟨isN_true.1 ?_, isN_true.1 ?_, ?_, ?_⟩
  · cases hh : isN ns.length s
    · exact absurd (Or.inl hh) h1
    · rfl
  · cases hh : isN ns.length x
    · exact absurd (Or.inr (Or.inr hh)) h1
    · rfl
  · exact Classical.byContradiction fun hh => h1 (Or.inr (Or.inl hh))
  · exact Classical.byContradiction fun hh => h2 hh

theorem init_zero {ns : List Nd} {p : Int × Int} (h : initE ns p = 0) : pairE ns p.1 p.2 = 0 := by
  unfold initE at h
  by_cases hp : pairE ns p.1 p.2 = 0
  · exact hp
  · rw [if_pos hp] at h; exact h

theorem step_zero {f : Int × Int → Int} {l : List (Int × Int)} {k : Nat} (h : ∀ i (hi : i < l.length), i < k → f l[i] = 0) (hk : k < l.length) (hf : f l[k] = 0) : ∀ i (hi : i < l.length), i < k + 1 → f l[i] = 0 := by
  intro i hi hik
  rcases Nat.lt_succ_iff_lt_or_eq.1 hik with h1 | rfl
  · exact h i hi h1
  · exact hf

/-- The boxed model's five cells. -/
def Box (w : World) (B : Nat) (m : Mv) (l0 : Nat) : Prop :=
  w.cell? ⟨B, 0, none⟩ = some (.slice m.a0 l0 m.c0) ∧ w.cell? ⟨B, 1, none⟩ = some (.slice m.a1 m.l1 m.c1) ∧ w.cell? ⟨B, 2, none⟩ = some (.slice m.a2 m.l2 m.c2) ∧ w.cell? ⟨B, 3, none⟩ = some (.slice m.a3 m.l3 m.c3) ∧ w.cell? ⟨B, 4, none⟩ = some (.slice m.a4 m.l4 m.c4)
theorem Box.later {w w1 : World} {B : Nat} {m : Mv} {l0 : Nat} (h : Box w B m l0) (hb : Below w.heap.size w w1) : Box w1 B m l0 :=
  ⟨cell_later hb h.1, cell_later hb h.2.1, cell_later hb h.2.2.1, cell_later hb h.2.2.2.1, cell_later hb h.2.2.2.2⟩
theorem Box.new (w : World) (m : Mv) (l0 : Nat) : Box (w.alloc (.cells (m.cells l0) 26)) w.heap.size m l0 := by
  unfold Box
  refine ⟨?_, ?_, ?_, ?_, ?_⟩ <;> simp [go_sem]

theorem past1 {w : World} {p : Addr} {v : Value} (h : w.cell? p = some v) (o : Obj) : (w.alloc o).cell? p = some v := cell_later (bal (Below.refl _ _) o) h

set_option maxRecDepth 100000 in
set_option maxHeartbeats 2000000 in
theorem checkPairs_any (a0 a1 a2 a3 a4 : Option Addr) (c0 c1 c2 c3 c4 l3 l4 : Nat) (ns : List Nd) (is xs : List (Int × Int)) (hl : ns.length ≤ 80) (hli : is.length ≤ 8796093022208) (hlx : xs.length ≤ 8796093022208) (hO : Ook ns) (w : World)
    (hN : NodesAt w a0 ns) (hI : PairsAt w a1 is) (hX : PairsAt w a2 xs) :
    Calls Tryz.prog 28 #[Mv.val ⟨a0, c0, a1, is.length, c1, a2, xs.length, c2, a3, l3, c3, a4, l4, c4⟩ ns.length] w fun e w' => e = .returned (.int .i64 (pairsE ns is xs)) ∧ Below w.heap.size w w' := by
  have HO := hide (hO)
  have hBx := Box.new w ⟨a0, c0, a1, is.length, c1, a2, xs.length, c2, a3, l3, c3, a4, l4, c4⟩ ns.length
  have HBx := hide (hBx)
  clear hO hBx
  go_enter Tryz.func28, Tryz.ntmps28
  go_wp2_with fail
  have hb0 : Below w.heap.size w (w.alloc (.cells (Mv.cells ⟨a0, c0, a1, is.length, c1, a2, xs.length, c2, a3, l3, c3, a4, l4, c4⟩ ns.length) 26)) := bal (Below.refl _ _) _
  refine (hangs_any a0 c0 ns hl HO.out _ (hN.later hb0)).mono ?_
  rintro e w1 ⟨g, rfl, hR, hb1⟩
  have hbw1 := bthen hb0 hb1
  have hbx1 := Box.later HBx.out hb1
  have HR := hide (hR)
  have HB1 := hide (hbx1)
  have hN1 := hN.later hbw1
  have hI1 := hI.later hbw1
  have hX1 := hX.later hbw1
  have m1 := hbx1.2.1
  simp only at m1
  clear hb0 hb1 HBx hR hN hI hX hbx1
  go_wp2
  go_loopw [16] (fun i wr => ∃ k : Nat, k ≤ is.length ∧ i = .int .i64 k ∧ Below w1.heap.size w1 wr ∧ Hid (∀ i (hi : i < is.length), i < k → initE ns is[i] = 0)) (fun i _ => is.length - (intOf i).toNat)
  case atStart => exact ⟨0, Nat.zero_le _, rfl, Below.refl _ _, fun i hi h => by omega⟩
  case round =>
    obtain ⟨k, hk, rfl, hbw, hz⟩ := hrel
    have hbox := Box.later HB1.out hbw
    simp only [Box] at hbox
    obtain ⟨q0, q1, q2, q3, q4⟩ := hbox
    by_cases hlt : k < is.length
    · obtain ⟨b, off, rfl, hc⟩ := (hI1.later hbw) (by omega)
      obtain ⟨d0, d1⟩ := hc k hlt
      have HH := hide (firstE_hit (initE ns) is k hlt hz.out)
      have HZ := hide (step_zero hz.out hlt)
      clear hc
      generalize is[k] = pr at *
      obtain ⟨s, x⟩ := pr
      simp only at *
      have t0 := past1 q0
      have t1 := past1 q1
      have t2 := past1 q2
      have t3 := past1 q3
      have t4 := past1 q4
      go_wp2_with fail
      refine (checkPair_any ⟨a0, c0, some ⟨b, off, none⟩, is.length, c1, a2, xs.length, c2, a3, l3, c3, a4, l4, c4⟩ ns hl s x _ (hN1.later (bal hbw _))).mono ?_
      rintro e w2 ⟨rfl, hb2⟩
      have hbw2 := bthen (bal hbw _) hb2
      have p1 := cell_later hb2 (a := ⟨wr.heap.size, 1, none⟩) (v := .int .i64 x) (by simp [go_sem])
      clear d0 d1 q0 q1 q2 q3 q4 t0 t1 t2 t3 t4 hb2
      by_cases hp : pairE ns s x = 0
      · have hpz := pairE_zero hp
        have hr := (BRow.later HR.out hbw2) x.toNat (by rw [hgs_len]; omega)
        have hr1 : w2.cell? ⟨g, x.toNat, none⟩ = some (.bool ((hgs ns ns.length).getD x.toNat false)) := by
          rw [hr.1]; simp [List.getD, List.getElem?_eq_getElem (show x.toNat < (hgs ns ns.length).length from by rw [hgs_len]; omega)]
        clear hr
        have hx0 := hpz.2.1
        rw [hp]
        cases hh : (hgs ns ns.length).getD x.toNat false
        · have HZ2 := hide (HZ.out (by unfold initE; simp only; rw [hp, hh]; rfl))
          rw [hh] at hr1
          clear hp hpz hh HH HZ
          go_wp2
          go_roundw
          case rel => exact ⟨k + 1, by omega, by go_num, hbw2, HZ2⟩
          case measure => simp [intOf]; omega
        · have HI : Hid (initE ns (s, x) = 4) := by unfold initE; simp only; rw [hp, hh]; rfl
          have HE : Hid (pairsE ns is xs = 4) := by
            have h1 : firstE (initE ns) is = 4 := by rw [HH.out (by rw [HI.out]; omega), HI.out]
            unfold pairsE; rw [h1]; rfl
          rw [hh] at hr1
          clear hp hpz hh HH HZ
          go_wp2
          go_ret
          exact ⟨ret_int HE.out.symm, bthen hbw1 hbw2⟩
      · have HI : Hid (initE ns (s, x) = pairE ns s x) := by unfold initE; simp only; rw [if_pos hp]; rfl
        have HE : Hid (pairsE ns is xs = pairE ns s x) := by
          have h1 : firstE (initE ns) is = pairE ns s x := by rw [HH.out (by rw [HI.out]; exact hp), HI.out]
          unfold pairsE; rw [h1, if_pos hp]; rfl
        have hp' : (pairE ns s x != 0) = true := by simp [hp]
        clear hp HH HZ
        go_wp2
        go_ret
        exact ⟨ret_int HE.out.symm, bthen hbw1 hbw2⟩
    · have H1 : Hid (firstE (initE ns) is = 0) := firstE_miss _ _ (fun i hi => hz.out i hi (by omega))
      have hzi : Hid (∀ i (hi : i < is.length), initE ns is[i] = 0) := fun i hi => hz.out i hi (by omega)
      clear hz
      go_wp2
      go_loopw [35] (fun i wt => ∃ k : Nat, k ≤ xs.length ∧ i = .int .i64 k ∧ Below wr.heap.size wr wt ∧ Hid (∀ i (hi : i < xs.length), i < k → nextE ns xs[i] = 0)) (fun i _ => xs.length - (intOf i).toNat)
      case atStart => exact ⟨0, Nat.zero_le _, rfl, Below.refl _ _, fun i hi h => by omega⟩
      case round =>
        obtain ⟨k2, hk2, rfl, hbt, hz2⟩ := hrel
        have hbt1 := bthen hbw hbt
        have hbox2 := Box.later HB1.out hbt1
        simp only [Box] at hbox2
        obtain ⟨r0, r1, r2, r3, r4⟩ := hbox2
        clear q0 q1 q2 q3 q4
        by_cases hlt2 : k2 < xs.length
        · obtain ⟨b, off, rfl, hc⟩ := (hX1.later hbt1) (by omega)
          obtain ⟨d0, d1⟩ := hc k2 hlt2
          have HH := hide (firstE_hit (nextE ns) xs k2 hlt2 hz2.out)
          have HZ := hide (step_zero hz2.out hlt2)
          clear hc
          generalize xs[k2] = pr at *
          obtain ⟨s, x⟩ := pr
          simp only at *
          have t0 := past1 r0
          have t1 := past1 r1
          have t2 := past1 r2
          have t3 := past1 r3
          have t4 := past1 r4
          go_wp2_with fail
          refine (checkPair_any ⟨a0, c0, a1, is.length, c1, some ⟨b, off, none⟩, xs.length, c2, a3, l3, c3, a4, l4, c4⟩ ns hl s x _ (hN1.later (bal hbt1 _))).mono ?_
          rintro e w2 ⟨rfl, hb2⟩
          have hbt2 := bthen (bal hbt _) hb2
          have hbt3 := bthen hbw hbt2
          clear d0 d1 r0 r1 r2 r3 r4 t0 t1 t2 t3 t4 hb2
          by_cases hp : pairE ns s x = 0
          · have HZ2 := hide (HZ.out (show nextE ns (s, x) = 0 from hp))
            rw [hp]
            clear hp HH HZ
            go_wp2
            go_roundw
            case rel => exact ⟨k2 + 1, by omega, by go_num, hbt2, HZ2⟩
            case measure => simp [intOf]; omega
          · have HE : Hid (pairsE ns is xs = pairE ns s x) := by
              have h1 : firstE (nextE ns) xs = pairE ns s x := HH.out hp
              unfold pairsE; rw [H1.out, h1, if_neg (by simp), if_pos hp]; rfl
            have hp' : (pairE ns s x != 0) = true := by simp [hp]
            clear hp HH HZ
            go_wp2
            go_ret
            exact ⟨ret_int HE.out.symm, bthen hbw1 hbt3⟩
        · have H2 : Hid (firstE (nextE ns) xs = 0) := firstE_miss _ _ (fun i hi => hz2.out i hi (by omega))
          have HD : Hid (pairsE ns is xs = if dup (fsts is) || dup (fsts xs) then 6 else 0) := by
            unfold pairsE; rw [H1.out, H2.out, if_neg (by simp), if_neg (by simp)]; rfl
          have hsi : Hid (∀ (i : Nat) (h : i < is.length), 0 ≤ is[i].1 ∧ is[i].1 < 80) := fun i hi => by
            have h0 := hzi.out i hi
            have := (pairE_zero (init_zero h0)).1
            omega
          have hsx : Hid (∀ (i : Nat) (h : i < xs.length), 0 ≤ xs[i].1 ∧ xs[i].1 < 80) := fun i hi => by
            have h0 : pairE ns xs[i].1 xs[i].2 = 0 := hz2.out i hi (by omega)
            have := (pairE_zero h0).1
            omega
          clear hz2
          go_wp2_with fail
          refine (twice_any a1 c1 is hli hsi.out _ (hI1.later hbt1)).mono ?_
          rintro e w3 ⟨rfl, hb3⟩
          have s2 := cell_later hb3 r2
          have hbt3 := bthen hbt1 hb3
          clear r0 r1 r2 r3 r4 hb3
          cases hd1 : dup (fsts is)
          · go_wp2_with fail
            refine (twice_any a2 c2 xs hlx hsx.out _ (hX1.later hbt3)).mono ?_
            rintro e w4 ⟨rfl, hb4⟩
            cases hd2 : dup (fsts xs)
            · go_wp2
              go_ret
              exact ⟨ret_int (by rw [HD.out, hd1, hd2]; rfl), bthen hbw1 (bthen hbt3 hb4)⟩
            · go_wp2
              go_ret
              exact ⟨ret_int (by rw [HD.out, hd1, hd2]; rfl), bthen hbw1 (bthen hbt3 hb4)⟩
          · go_wp2
            go_ret
            exact ⟨ret_int (by rw [HD.out, hd1]; rfl), bthen hbw1 hbt3⟩

end Go.Proofs.YtfobcnhibhbbaaaGreatDoor.Ev
