/- Which nodes hang on an input or a state. -/
import Derived.Test.YtfobcnhibhbbaaaGreatDoorMgM
namespace Go.Proofs.YtfobcnhibhbbaaaGreatDoor.Ev
open Go.RowKit
set_option maxRecDepth 100000

theorem info4 : (Tryz.prog.info? 4).map (fun i => (i.zero, i.size, i.bytes)) = some (some (.bool false), 1, 1) := by kernel_rfl

theorem frozen_later {w wx : World} {a : Addr} {v : Value} (hb : Below w.heap.size w wx) (h : w.cell? a = some v) (hf : w.frozen? a = false) : wx.frozen? a = false :=
  (hb.frozen (World.block_lt_of_cell? _ _ h)).trans hf

theorem BRow.later {w w1 : World} {g : Nat} {bs : List Bool} (h : BRow w g bs) (hb : Below w.heap.size w w1) : BRow w1 g bs := fun j hj =>
  ⟨cell_later hb (h j hj).1, frozen_later hb (h j hj).1 (h j hj).2⟩

theorem BRow.set {w : World} {g : Nat} {bs : List Bool} (h : BRow w g bs) (k : Nat) (b : Bool) : BRow (w.setCell ⟨g, k, none⟩ (.bool b)) g (bs.set k b) := by
  intro j hj
  have hj' : j < bs.length := by simpa using hj
  refine ⟨?_, (World.frozen?_setCell _ _ _ _).trans (h j hj').2⟩
  by_cases e : k = j
  · subst e
    rw [World.cell?_setCell_same _ _ _ (h k hj').1]
    simp
  · rw [World.cell?_setCell_other _ _ _ _ (by simp), (h j hj').1, List.getElem_set_ne e]

theorem row_set (bs : List Bool) (n : Nat) (b : Bool) : (bs ++ List.replicate (n + 1) false).set bs.length b = (bs ++ [b]) ++ List.replicate n false := by
  rw [List.set_append]
  simp [List.replicate_succ]

/-- What a node names lies ahead of it. -/
def Ook (ns : List Nd) : Prop := ∀ (i : Nat) (h : i < ns.length), ∀ y ∈ opsL ns[i], 0 ≤ y ∧ y < i

theorem row_getD (bs : List Bool) (n : Nat) (j : Nat) (h : j < bs.length) : (bs ++ List.replicate n false).getD j false = bs.getD j false := by
  simp [List.getD, List.getElem?_append_left h]

theorem any_congr (l : List Int) (f g : Int → Bool) (h : ∀ x ∈ l, f x = g x) : l.any f = l.any g := by
  induction l with
  | nil => rfl
  | cons a l ih => simp only [List.any_cons]; rw [h a (by simp), ih (fun x hx => h x (by simp [hx]))]

theorem bthenN {wr w1 w2 : World} {N : Nat} {o : Nat} {v : Value} (h : Below N wr w1) (hc : w1.cell? ⟨N, o, none⟩ = some v) (k : Below w1.heap.size w1 w2) : Below N wr w2 :=
  h.trans (k.mono (Nat.le_of_lt (World.block_lt_of_cell? _ _ hc)))

/-- Does one of what a node names hang? By the call. -/
theorem any_hangs (ns : List Nd) (x : Nd) (k len : Nat) (hk : k ≤ len) (hl : len ≤ 80) (hlen : (hgs ns k).length = k) (hO : ∀ y ∈ opsL x, 0 ≤ y ∧ y < k) (B g : Nat) (wr : World)
    (hB : wr.cell? ⟨B, 0, none⟩ = some (.slice (some ⟨g, 0, none⟩) len len)) (hR : BRow wr g (hgs ns k ++ List.replicate (len - k) false))
    (w' : World) (hb : Below wr.heap.size wr w') (q : Option Addr) (qc : Nat) (hI : IntsAt w' q (opsL x)) :
    Calls Tryz.prog 40 #[.slice q (opsL x).length qc, .func (.func 77) #[] #[.pointer (some ⟨B, 0, none⟩)]] w' fun e w'' => e = .returned (.bool ((opsL x).any (fun y => (hgs ns k).getD y.toNat false))) ∧ Below w'.heap.size w' w'' := by
  have e : (opsL x).any (fun y => (hgs ns k).getD y.toNat false) = (opsL x).any (fun y => (hgs ns k ++ List.replicate (len - k) false).getD y.toNat false) := by
    apply any_congr
    intro y hy
    have := hO y hy
    rw [row_getD _ _ _ (by omega)]
  rw [e]
  have h4 := takes_four x.kind
  refine containsFunc_any 77 _ _ (opsL x) q qc w' (by rw [opsL_len]; unfold maxLen; omega) hI enter79' ?_
  intro w2 hb2 i hi
  have hy := hO (opsL x)[i] (List.getElem_mem hi)
  have hbb := bthen hb hb2
  refine (hangs1_any (opsL x)[i] B g len len (hgs ns k ++ List.replicate (len - k) false) w2 (by simp [hlen]; omega) (by unfold maxLen; omega) hy.1 (by omega) (cell_later hbb hB) (hR.later hbb)).mono ?_
  rintro e w3 ⟨rfl, rfl⟩
  exact ⟨rfl, Below.refl _ _⟩

theorem keepOther {w : World} {B o g k : Nat} {u v : Value} (hne : ¬ B = g) (h : w.cell? ⟨B, o, none⟩ = some v) : (w.setCell ⟨g, k, none⟩ u).cell? ⟨B, o, none⟩ = some v :=
  (World.cell?_setCell_other _ _ _ _ (by simp)).trans h

theorem hang_step {w wr w3 : World} {ns : List Nd} {k B : Nat} {b : Bool} (hlt : k < ns.length) (hne : ¬ B = w.heap.size) (hbw : Below w.heap.size w wr) (hb3 : Below wr.heap.size wr w3)
    (hR : BRow wr w.heap.size (hgs ns k ++ List.replicate (ns.length - k) false)) (hB : wr.cell? ⟨B, 0, none⟩ = some (.slice (some ⟨w.heap.size, 0, none⟩) ns.length ns.length)) (hAT : hgs ns (k + 1) = hgs ns k ++ [b]) :
    Below w.heap.size w (w3.setCell ⟨w.heap.size, k, none⟩ (.bool b)) ∧ Hid (BRow (w3.setCell ⟨w.heap.size, k, none⟩ (.bool b)) w.heap.size (hgs ns (k + 1) ++ List.replicate (ns.length - (k + 1)) false)) ∧ (w3.setCell ⟨w.heap.size, k, none⟩ (.bool b)).cell? ⟨B, 0, none⟩ = some (.slice (some ⟨w.heap.size, 0, none⟩) ns.length ns.length) := by
  refine ⟨(bthen hbw hb3).setCell (Nat.le_refl _) _, ?_, keepOther hne (cell_later hb3 hB)⟩
  have h := (hR.later hb3).set k b
  have e : (hgs ns k ++ List.replicate (ns.length - k) false).set k b = hgs ns (k + 1) ++ List.replicate (ns.length - (k + 1)) false := by
    have h1 := row_set (hgs ns k) (ns.length - (k + 1)) b
    rw [hgs_len, show ns.length - (k + 1) + 1 = ns.length - k from by omega] at h1
    rw [h1, hAT]
  rw [e] at h
  exact h

set_option maxRecDepth 100000 in
set_option maxHeartbeats 4000000 in
theorem hangs_any (p : Option Addr) (cap : Nat) (ns : List Nd) (hl : ns.length ≤ 80) (hO : Ook ns) (w : World) (hN : NodesAt w p ns) :
    Calls Tryz.prog 53 #[.slice p ns.length cap] w fun e w' => ∃ g, e = .returned (.slice (some ⟨g, 0, none⟩) ns.length ns.length) ∧ BRow w' g (hgs ns ns.length) ∧ Below w.heap.size w w' := by
  obtain ⟨i0, hi, hz0, hz1, hz2⟩ := info_parts info4
  have hmf : ∀ (fn : Fn) (first cap : Array Value) (w : World), (Instr.makeFunc fn first cap).run Tryz.prog w = .ok (.func fn first cap) w := fun _ _ _ _ => rfl
  have HO : Hid _ := hO
  clear hO
  go_enter Tryz.func53, Tryz.ntmps53
  go_wp2_with (at_make; refine wpList_make_full _ rfl _ _ 104 rfl w.heap.size 4 i0 (.bool false) 1 Tryz.underlying104 hi hz0 hz1 .i64 .i64 _ _ ns.length rfl rfl rfl rfl (by rw [hz2]; omega) (by unfold maxLen; omega) (Nat.le_refl _) ?_)
  intro w1 hown hgrow
  have hbA : Below w.heap.size w (w1.alloc (.cells #[.slice (some ⟨w.heap.size, 0, none⟩) ns.length ns.length] 104)) := bal ((Below.refl _ _).grown hgrow (Nat.le_refl _) (fun _ h => by cases h)) _
  have hR1 : BRow w1 w.heap.size (List.replicate ns.length false) := by
    intro j hj
    have hj' : j < ns.length := by simpa using hj
    refine ⟨?_, hown.frozenAt j⟩
    rw [hown.cellAt j (by omega)]
    simp [toList_madeCells_one, hj']
  have hR : BRow (w1.alloc (.cells #[.slice (some ⟨w.heap.size, 0, none⟩) ns.length ns.length] 104)) w.heap.size (hgs ns 0 ++ List.replicate (ns.length - 0) false) := hR1.later (bal (Below.refl _ _) _)
  have hB : (w1.alloc (.cells #[.slice (some ⟨w.heap.size, 0, none⟩) ns.length ns.length] 104)).cell? ⟨w1.heap.size, 0, none⟩ = some (.slice (some ⟨w.heap.size, 0, none⟩) ns.length ns.length) := by simp [go_sem]
  have HA : Hid _ := And.intro hbA (And.intro hR hB)
  have hgw : ¬ w1.heap.size = w.heap.size := by have := (hown.lt w.heap.size rfl).2; omega
  clear hbA hR hB hR1 hown hgrow
  go_wp2
  go_loopw [11] (fun i wr => ∃ k : Nat, k ≤ ns.length ∧ i = .int .i64 k ∧ Below w.heap.size w wr ∧ Hid (BRow wr w.heap.size (hgs ns k ++ List.replicate (ns.length - k) false)) ∧ wr.cell? ⟨w1.heap.size, 0, none⟩ = some (.slice (some ⟨w.heap.size, 0, none⟩) ns.length ns.length)) (fun i _ => ns.length - (intOf i).toNat)
  case atStart => exact ⟨0, Nat.zero_le _, rfl, HA.out.1, HA.out.2.1, HA.out.2.2⟩
  case round =>
    obtain ⟨k, hk, rfl, hbw, hR, hB⟩ := hrel
    by_cases hlt : k < ns.length
    · obtain ⟨b, off, rfl, hc⟩ := (hN.later hbw) (by omega)
      obtain ⟨c0, c1, c2, c3, c4, c5⟩ := hc k hlt
      have HAT : Hid _ := hgs_at ns k hlt
      have hops := HO.out k hlt
      have HOP : Hid _ := hops
      clear hc hops
      generalize ns[k] = nd at *
      obtain ⟨kd, v, x, y, z, n⟩ := nd
      simp only at *
      have hlen := hgs_len ns k
      have hRw := hR.out
      have hlr : (hgs ns k ++ List.replicate (ns.length - k) false).length = ns.length := by simp [hlen]; omega
      have hgk := hRw k (by omega)
      have hgk1 : wr.cell? ⟨w.heap.size, k, none⟩ = some (.bool (hgs ns k ++ List.replicate (ns.length - k) false)[k]) := hgk.1
      have hgk2 := hgk.2
      have HGK : Hid (wr.cell? ⟨w.heap.size, k, none⟩ = _) := hgk1
      generalize (hgs ns k ++ List.replicate (ns.length - k) false)[k] = old at *
      have HR : Hid _ := hRw
      have HCF : Hid (∀ (w' : World), Below wr.heap.size wr w' → ∀ (q : Option Addr) (qc : Nat), IntsAt w' q (opsL ⟨kd, v, x, y, z, n⟩) → Calls Tryz.prog 40 #[.slice q (opsL ⟨kd, v, x, y, z, n⟩).length qc, .func (.func 77) #[] #[.pointer (some ⟨w1.heap.size, 0, none⟩)]] w' fun e w'' => e = .returned (.bool ((opsL ⟨kd, v, x, y, z, n⟩).any (fun y => (hgs ns k).getD y.toNat false))) ∧ Below w'.heap.size w' w'') :=
        fun w' hb q qc hI => any_hangs ns ⟨kd, v, x, y, z, n⟩ k ns.length hk hl hlen HOP.out w1.heap.size w.heap.size wr hB hRw w' hb q qc hI
      clear hgk hRw hR hlen
      go_wp2
      have n0 : (wr.alloc (.cells #[.int .i64 kd, .int .i64 v, .int .i64 x, .int .i64 y, .int .i64 z, .int .i64 n] 62)).cell? ⟨wr.heap.size, 0, none⟩ = some (.int .i64 kd) := by simp [go_sem]
      have n1 : (wr.alloc (.cells #[.int .i64 kd, .int .i64 v, .int .i64 x, .int .i64 y, .int .i64 z, .int .i64 n] 62)).cell? ⟨wr.heap.size, 1, none⟩ = some (.int .i64 v) := by simp [go_sem]
      have n2 : (wr.alloc (.cells #[.int .i64 kd, .int .i64 v, .int .i64 x, .int .i64 y, .int .i64 z, .int .i64 n] 62)).cell? ⟨wr.heap.size, 2, none⟩ = some (.int .i64 x) := by simp [go_sem]
      have n3 : (wr.alloc (.cells #[.int .i64 kd, .int .i64 v, .int .i64 x, .int .i64 y, .int .i64 z, .int .i64 n] 62)).cell? ⟨wr.heap.size, 3, none⟩ = some (.int .i64 y) := by simp [go_sem]
      have n4 : (wr.alloc (.cells #[.int .i64 kd, .int .i64 v, .int .i64 x, .int .i64 y, .int .i64 z, .int .i64 n] 62)).cell? ⟨wr.heap.size, 4, none⟩ = some (.int .i64 z) := by simp [go_sem]
      have n5 : (wr.alloc (.cells #[.int .i64 kd, .int .i64 v, .int .i64 x, .int .i64 y, .int .i64 z, .int .i64 n] 62)).cell? ⟨wr.heap.size, 5, none⟩ = some (.int .i64 n) := by simp [go_sem]
      have hba : Below wr.heap.size wr (wr.alloc (.cells #[.int .i64 kd, .int .i64 v, .int .i64 x, .int .i64 y, .int .i64 z, .int .i64 n] 62)) := bal (Below.refl _ _) _
      have b0 := cell_later hba hB
      have g1 := cell_later hba hgk1
      have g2 := frozen_later hba hgk1 hgk2
      clear c0 c1 c2 c3 c4 c5 hgk1 hgk2
      have HB : Hid _ := hB
      clear hB
      generalize wr.alloc (.cells #[.int .i64 kd, .int .i64 v, .int .i64 x, .int .i64 y, .int .i64 z, .int .i64 n] 62) = wa at *
      have hkl : (k : Int) < (ns.length : Int) := by omega
      have hNg : ¬ wr.heap.size = w.heap.size := by have := World.block_lt_of_cell? _ _ HGK.out; simp at this; omega
      generalize hNB : wr.heap.size = NB at *
      have HNB : Hid _ := hNB
      clear hNB
      by_cases hk2 : kd = 2
      · have hkk : Hid _ := hk2
        have e2 : (kd == 2) = true := by simp [hk2]
        clear hk2
        have hfin : Hid _ := hang_step (b := true) hlt hgw hbw (show Below wr.heap.size wr wa.drew from HNB.out.symm ▸ hba.drew) HR.out HB.out (by rw [HAT.out]; simp [hkk.out])
        go_region
        all_goals
          go_wp2
          go_roundw
          case rel => exact ⟨k + 1, by omega, by go_num, hfin.out⟩
          case measure => simp [intOf]; omega
      · by_cases hk3 : kd = 3
        · have hkk : Hid _ := hk3
          have e2 : (kd == 2) = false := by simp [hk2]
          have e3 : (kd == 3) = true := by simp [hk3]
          clear hk3 hk2
          have hfin : Hid _ := hang_step (b := true) hlt hgw hbw (show Below wr.heap.size wr wa.drew from HNB.out.symm ▸ hba.drew) HR.out HB.out (by rw [HAT.out]; simp [hkk.out])
          go_region
          all_goals
            go_wp2
            go_roundw
            case rel => exact ⟨k + 1, by omega, by go_num, hfin.out⟩
            case measure => simp [intOf]; omega
        · have e2 : (kd == 2) = false := by simp [hk2]
          have e3 : (kd == 3) = false := by simp [hk3]
          go_region_held3 (fun w' => w'.cell? ⟨w1.heap.size, 0, none⟩ = some (.slice (some ⟨w.heap.size, 0, none⟩) ns.length ns.length) ∧ w'.cell? ⟨NB, 0, none⟩ = some (.int .i64 kd) ∧ w'.cell? ⟨NB, 1, none⟩ = some (.int .i64 v) ∧ w'.cell? ⟨NB, 2, none⟩ = some (.int .i64 x) ∧ w'.cell? ⟨NB, 3, none⟩ = some (.int .i64 y) ∧ w'.cell? ⟨NB, 4, none⟩ = some (.int .i64 z) ∧ w'.cell? ⟨NB, 5, none⟩ = some (.int .i64 n))
            (first | exact ⟨b0, n0, n1, n2, n3, n4, n5⟩ | exact ⟨cell_later hbc b0, cell_later hbc n0, cell_later hbc n1, cell_later hbc n2, cell_later hbc n3, cell_later hbc n4, cell_later hbc n5⟩ | (have hbe := bthen (show Below wa.drew.heap.size wa.drew _ from hbc) hbd; exact ⟨cell_later hbe b0, cell_later hbe n0, cell_later hbe n1, cell_later hbe n2, cell_later hbe n3, cell_later hbe n4, cell_later hbe n5⟩) | (have hbe := bthen (show Below wa.drew.heap.size wa.drew _ from hbc) hbd; exact ⟨keepOther hgw (cell_later hbe b0), keepOther hNg (cell_later hbe n0), keepOther hNg (cell_later hbe n1), keepOther hNg (cell_later hbe n2), keepOther hNg (cell_later hbe n3), keepOther hNg (cell_later hbe n4), keepOther hNg (cell_later hbe n5)⟩) | go_keep)
            (first | (go_at_call 76; refine (operands_any ⟨kd, v, x, y, z, n⟩ _).mono ?_; rintro e w2 ⟨q, qc, rfl, hI, hbc⟩) | (go_at_call 40; refine (HCF.out _ (bthenN (o := 0) (v := .int .i64 kd) hba.drew n0 hbc) _ _ hI).mono ?_; rintro e w3 ⟨rfl, hbd⟩; have g1b := cell_later (bthen (show Below wa.drew.heap.size wa.drew _ from hbc) hbd) g1; have g2b := frozen_later (bthen (show Below wa.drew.heap.size wa.drew _ from hbc) hbd) g1 g2))
          all_goals
            have hfin := hang_step (b := (opsL ⟨kd, v, x, y, z, n⟩).any fun y => (hgs ns k).getD y.toNat false) hlt hgw hbw (bthen (bthen (show Below wr.heap.size wr wa.drew from HNB.out.symm ▸ hba.drew) hbc) hbd) HR.out HB.out (by rw [HAT.out, e2, e3]; rfl)
            go_wp2
            first
              | exact ⟨⟨k + 1, by omega, by go_num, hfin⟩, by simp [intOf]; omega⟩
              | (go_roundw; (case rel => exact ⟨k + 1, by omega, by go_num, hfin⟩); (case measure => simp [intOf]; omega))
    · obtain rfl : k = ns.length := by omega
      go_wp2
      go_ret
      exact ⟨w.heap.size, rfl, by simpa using hR.out, hbw⟩

end Go.Proofs.YtfobcnhibhbbaaaGreatDoor.Ev
