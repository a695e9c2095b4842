/- What the states of the toggle begin as. -/
import Derived.Test.YtjhkecnnhddhbaaGreatDoorBd
import Derived.Test.YtjhkecnnhddhbaaGreatDoorBf
import Derived.Test.YtjhkecnnhddhbaaGreatDoorEj
import Derived.Test.YtjhkecnnhddhbaaGreatDoorOb
namespace Go.Proofs.YtjhkecnnhddhbaaGreatDoor.Ev
open Go.RowKit Go.Maps
set_option maxRecDepth 100000
set_option maxRecDepth 100000

theorem tg_sel : sel (isK tgN 3) tgN.length = [1] := by decide
theorem tg_sel2 : sel (isK tgN 2) tgN.length = [] := by decide
theorem tg_chk : checkE tgN [(1, 0)] [(1, 2)] [1] [] = 0 := by decide
theorem tg_beg : beginE tgN [(1, 0)] [(1, 2)] [1] [] [0] = 0 := by decide
theorem tg_beI : beginI tgN [(1, 0)] 0 [0] = [0] := by decide
theorem tg_bits : Go.Proofs.YtjhkecnnhddhbaaGreatDoor.bitsC 0 1 = [0] := by decide

/-- The toggle's value, and what lies of it in memory. -/
abbrev tgM (B0 B1 B2 B3 : Nat) : Mv := ⟨some ⟨B0, 0, none⟩, 3, some ⟨B1, 0, none⟩, 1, 1, some ⟨B2, 0, none⟩, 1, 1, some ⟨B3, 0, none⟩, 1, 1, none, 0, 0⟩
structure TgAt (w : World) (B0 B1 B2 B3 : Nat) : Prop where
  n : NodesAt w (some ⟨B0, 0, none⟩) tgN
  i : PairsAt w (some ⟨B1, 0, none⟩) [(1, 0)]
  x : PairsAt w (some ⟨B2, 0, none⟩) [(1, 2)]
  b : IntsAt w (some ⟨B3, 0, none⟩) [1]
theorem TgAt.later {w w1 : World} {B0 B1 B2 B3 : Nat} (h : TgAt w B0 B1 B2 B3) (hb : Below w.heap.size w w1) : TgAt w1 B0 B1 B2 B3 := ⟨h.n.later hb, h.i.later hb, h.x.later hb, h.b.later hb⟩
theorem pairs_in {l : List (Int × Int)} (h : l.all (fun p => decide (0 ≤ p.1 ∧ p.1 < 80 ∧ 0 ≤ p.2 ∧ p.2 < 80)) = true) : ∀ (i : Nat) (hi : i < l.length), 0 ≤ l[i].1 ∧ l[i].1 < 80 ∧ 0 ≤ l[i].2 ∧ l[i].2 < 80 := fun i hi => by
  have := List.all_eq_true.1 h _ (List.getElem_mem hi)
  simpa using this

theorem look92 {w : World} {M n : Nat} {D : DataW Unit} {l : List (Int × Int)} (h : w.ownsMap Tryz.prog 3 (plainElem (H := Unit) Tryz.prog 3) M n D) (hD : PartIs l D) {x : Int} (hx : 0 ≤ x) (hx2 : x ≤ 1000) :
    (Instr.lookup 127 (.map (some M)) (.int .i64 x) true).run Tryz.prog w = .ok (.tuple #[.int .i64 (lastV l x), .bool ((fsts l).contains x)]) w := by
  have hkey : keyOf Tryz.prog 3 (.int .i64 x) = some (.int .i64 x) := keyOf_int_mk Tryz.underlying3 (WalkArith.wf_i64 (by omega))
  obtain ⟨v, ps, h1, h2⟩ := World.ownsMap.look_ok h law3 Tryz.underlying127 (zero3 _) (plainElem_int Tryz.underlying3 (a := 0) (by decide)) hkey
  obtain ⟨c, rfl, hc, _⟩ := plainElem_int_inv Tryz.underlying3 h2
  simp only [Prod.mk.injEq] at hc
  have hcy : lastV l x = c := lit_inj ((hD.at' x).symm.trans hc.1)
  rw [h1, hcy, hD.has x]

set_option maxHeartbeats 4000000 in
theorem begunT_any (B0 B1 B2 B3 : Nat) (w : World) (hT : TgAt w B0 B1 B2 B3) :
    Calls Tryz.prog 74 #[Mv.val (tgM B0 B1 B2 B3) 3] w fun e w' => ∃ p cap, e = .returned (.tuple #[.slice p 1 cap, .int .i64 0]) ∧ IntsAt w' p [0] ∧ (∀ b off, p = some ⟨b, off, none⟩ → w.heap.size ≤ b) ∧ Below w.heap.size w w' := by
  have hB0 : Below w.heap.size w (w.alloc (.cells (Mv.cells (tgM B0 B1 B2 B3) 3) 65)) := bal (Below.refl _ _) _
  have HT := hide hT
  have HOK := hide (fun (w' : World) (hb : Below w.heap.size w w') => ofKind_any (some ⟨B0, 0, none⟩) 3 tgN (by decide) 3 w' (hT.n.later hb))
  rw [tg_sel] at HOK
  have HBE := hide (fun (w' : World) (hb : Below w.heap.size w w') (v4 : Value) (hS : SL w' v4 [0]) => begin_any (some ⟨B0, 0, none⟩) (some ⟨B1, 0, none⟩) (some ⟨B2, 0, none⟩) (some ⟨B3, 0, none⟩) none 3 1 1 1 0 tgN [(1, 0)] [(1, 2)] [1] [] (by decide) (by decide) (by decide) (by simp [maxLen]) (by simp [maxLen]) [0] (by simp [maxLen]) v4 w' (hT.n.later hb) (hT.i.later hb) (hT.x.later hb) (hT.b.later hb) (fun h => by simp at h) hS)
  rw [tg_beg, tg_beI] at HBE
  have HPA := hide (fun (w' : World) (hb : Below w.heap.size w w') => partners_any (some ⟨B1, 0, none⟩) 1 [(1, 0)] (by decide) (pairs_in (by decide)) w' (hT.i.later hb))
  clear hT
  go_enter Tryz.func74, Tryz.ntmps74
  go_wp2_with fail
  refine (HOK.out _ hB0).mono ?_
  rintro e w1 ⟨ps, cs, rfl, hIs, hb1⟩
  have q0 := cell_later hb1 (a := ⟨w.heap.size, 0, none⟩) (v := .slice (some ⟨B0, 0, none⟩) 3 3) (by simp [go_sem])
  have q1 := cell_later hb1 (a := ⟨w.heap.size, 1, none⟩) (v := .slice (some ⟨B1, 0, none⟩) 1 1) (by simp [go_sem])
  have q2 := cell_later hb1 (a := ⟨w.heap.size, 2, none⟩) (v := .slice (some ⟨B2, 0, none⟩) 1 1) (by simp [go_sem])
  have q3 := cell_later hb1 (a := ⟨w.heap.size, 3, none⟩) (v := .slice (some ⟨B3, 0, none⟩) 1 1) (by simp [go_sem])
  have q4 := cell_later hb1 (a := ⟨w.heap.size, 4, none⟩) (v := .slice none 0 0) (by simp [go_sem])
  have HB1 := hide (bthen hB0 hb1)
  have HIS := hide hIs
  clear hb1 hB0 hIs HOK
  obtain ⟨w2, hmk, hrow, hb2, hlt2⟩ := Go.Proofs.YtjhkecnnhddhbaaGreatDoor.make_ints 1 (by decide) w1.drew
  have hmk' : (Instr.makeSlice 25 (.int .i64 1) (.int .i64 1)).run Tryz.prog w1.drew = .ok (.slice (some ⟨w1.drew.heap.size, 0, none⟩) 1 1) w2 := hmk
  have hbD : Below w1.heap.size w1 w2 := (Below.refl _ w1).drew.trans (show Below w1.heap.size w1.drew w2 from hb2)
  have HSL : Hid (SL w2 (.slice (some ⟨w1.heap.size, 0, none⟩) 1 1) [0]) := ⟨_, _, rfl, Go.Proofs.YtjhkecnnhddhbaaGreatDoor.irow_ints hrow, by simp, by simp [maxLen]⟩
  have k0 := cell_later hbD q0
  have k1 := cell_later hbD q1
  have k2 := cell_later hbD q2
  have k3 := cell_later hbD q3
  have k4 := cell_later hbD q4
  have HB2 := hide (bthen HB1.out hbD)
  have HIS2 := hide (HIS.out.later hbD)
  clear hmk hrow hb2
  go_wp2
  go_region_held3 (fun w' => w'.cell? ⟨w.heap.size, 0, none⟩ = some (.slice (some ⟨B0, 0, none⟩) 3 3) ∧ w'.cell? ⟨w.heap.size, 1, none⟩ = some (.slice (some ⟨B1, 0, none⟩) 1 1) ∧ w'.cell? ⟨w.heap.size, 2, none⟩ = some (.slice (some ⟨B2, 0, none⟩) 1 1) ∧ w'.cell? ⟨w.heap.size, 3, none⟩ = some (.slice (some ⟨B3, 0, none⟩) 1 1) ∧ w'.cell? ⟨w.heap.size, 4, none⟩ = some (.slice none 0 0))
    (first | exact ⟨cell_later hb3 k0, cell_later hb3 k1, cell_later hb3 k2, cell_later hb3 k3, cell_later hb3 k4⟩ | exact ⟨k0, k1, k2, k3, k4⟩ | go_keep)
    ((go_at_call 90; refine (HBE.out _ HB2.out _ HSL.out).mono ?_; rintro e w3 ⟨pw, cw, lw, rfl, rfl, hIw, hb3⟩))
  rename_i hHeld
  have g0 := cell_later hb3 k0
  have g1 := cell_later hb3 k1
  have HB3 := hide (bthen HB2.out hb3)
  have HIS3 := hide (HIS2.out.later hb3)
  have HIW := hide hIw
  clear hHeld hb3 k0 k1 k2 k3 k4 q0 q1 q2 q3 q4 hmk' hbD HSL HBE HIS HIS2 HB1 HB2 hlt2 hIw
  go_wp2_with fail
  refine (HPA.out _ HB3.out).mono ?_
  rintro e w4 ⟨M, D, rfl, _, hown, hD, hb4⟩
  have h0 := cell_later hb4 g0
  have HO4 := hide hown
  have HD := hide hD
  have HB4 := hide (bthen HB3.out hb4)
  have HIS4 := hide (HIS3.out.later hb4)
  have HIW4 := hide (HIW.out.later hb4)
  clear hb4 hown hD g0 g1 HPA HB3 HIS3 HIW
  go_wp2
  go_loopw [8, 33] (fun v i wr => ∃ k : Nat, k ≤ 1 ∧ i = .int .i64 k ∧ Hid (wr.ownsRow w4.heap.size 3 1 v (List.replicate k (0 : Int)).length ((List.replicate k (0 : Int)).map (Value.int .i64))) ∧ Hid (Below w4.heap.size w4 wr)) (fun _ i _ => 1 - (intOf i).toNat)
  case atStart => exact ⟨0, Nat.zero_le _, rfl, World.ownsRow_nil _ _ _ _, Below.refl _ _⟩
  case round =>
    obtain ⟨k, hk, rfl, HOW, HR⟩ := hrel
    have hszw := HR.out.size
    by_cases hlt : k < 1
    · obtain rfl : k = 0 := by omega
      obtain ⟨sb, so, rfl, hsc⟩ := (HIS4.out.later HR.out) (by simp)
      have s0 := hsc 0 (by simp)
      obtain ⟨wb, wo, rfl, hwc⟩ := (HIW4.out.later HR.out) (by simp)
      have t0 := hwc 0 (by simp)
      obtain ⟨nb, no, hne, hnc⟩ := (HT.out.n.later (bthen HB4.out HR.out)) (by decide)
      cases hne
      have n1 := (hnc 1 (by decide)).2.1
      simp [tgN] at n1 s0 t0
      have j0 := cell_later HR.out h0
      clear hsc hwc hnc
      have hbd : Below wr.heap.size wr wr.drew := (Below.refl _ wr).drew
      have HCO := hide (Go.Proofs.YtjhkecnnhddhbaaGreatDoor.constant_any 0 1 (by decide) (by decide) (by decide) wr.drew)
      rw [tg_bits] at HCO
      have HCO2 : Hid (Calls Tryz.prog 92 #[.int .i64 0, .int .i64 1] wr.drew fun e w' => ∃ G, e = .returned (.slice (some ⟨G, 0, none⟩) 1 1) ∧ wr.drew.heap.size ≤ G ∧ Go.Proofs.YtjhkecnnhddhbaaGreatDoor.IRow w' G [0] ∧ Below wr.drew.heap.size wr.drew w') := HCO.out
      have HOW0 : Hid (wr.ownsRow w4.heap.size 3 1 u8 ([] : List Int).length (([] : List Int).map (Value.int .i64))) := HOW.out
      obtain ⟨pv, cv, rfl, _, _⟩ := Go.Proofs.YtjhkecnnhddhbaaGreatDoor.owns_ints HOW0.out
      clear HCO HOW
      go_wp2
      go_region_held3 (fun w' => w'.cell? ⟨w.heap.size, 0, none⟩ = some (.slice (some ⟨B0, 0, none⟩) 3 3) ∧ w'.cell? ⟨wb, wo, none⟩ = some (.int .i64 0) ∧ w'.cell? ⟨B0, 7, none⟩ = some (.int .i64 1))
        (first | exact ⟨cell_later hbN j0, cell_later hbN t0, cell_later hbN n1⟩ | go_keep)
        ((go_at_call 92; refine HCO2.out.mono ?_; rintro e w5 ⟨G, rfl, hG, hrG, hb5⟩; have hbN : Below wr.heap.size wr w5 := hbd.trans (show Below wr.heap.size wr.drew w5 from hb5)))
      rename_i hHeld
      have hlook := look92 (Go.Proofs.YtjhkecnnhddhbaaGreatDoor.map_below HO4.out (bthen HR.out hbN)) HD.out (x := 1) (by decide) (by decide)
      have hl0 : lastV [(1, 0)] 1 = 0 := by decide
      have hc0 : (fsts [(1, 0)]).contains 1 = true := by decide
      rw [hl0, hc0] at hlook
      have HO5 := hide (Go.Proofs.YtjhkecnnhddhbaaGreatDoor.owns_below HOW0.out hbN)
      have HRG := hide (Go.Proofs.YtjhkecnnhddhbaaGreatDoor.irow_ints hrG)
      have HR5 := hide (bthen HR.out hbN)
      have hs5 := hbN.size
      clear hHeld hl0 hc0 hrG hb5 hbN hG HOW0 HCO2 hbd j0 t0 n1 s0
      go_wp2_with (at_builtin; refine Go.Proofs.YtjhkecnnhddhbaaGreatDoor.wpList_append_ints rfl _ _ rfl w4.heap.size _ [] [0] rfl HO5.out _ _ rfl HRG.out (fun h => by cases h) (by simp) (by omega) ?_)
      intro v' w6 hown6 hg6
      have HB6 := hide (HR5.out.grown hg6 (by omega) (fun j hj => (HO5.out.lt j hj).1))
      have HO6 : Hid (w6.ownsRow w4.heap.size 3 1 v' (List.replicate 1 (0 : Int)).length ((List.replicate 1 (0 : Int)).map (Value.int .i64))) := hown6
      clear hown6 hg6
      go_wp2
      go_roundw
      case rel => exact ⟨1, by omega, by go_num, HO6, HB6⟩
      case measure => simp [intOf]
    · obtain rfl : k = 1 := by omega
      obtain ⟨pv, cv, rfl, hiv, _⟩ := Go.Proofs.YtjhkecnnhddhbaaGreatDoor.owns_ints HOW.out
      have HIV := hide hiv
      have HBW := hide (bthen HB4.out HR.out)
      have HFR : Hid (∀ b off, pv = some ⟨b, off, none⟩ → w.heap.size ≤ b) := fun b off h => by
        subst h
        have h1 := (HOW.out.lt b rfl).1
        have h2 := HB4.out.size
        omega
      clear hiv
      go_wp2
      go_ret2
      exact ⟨pv, cv, rfl, HIV.out, HFR.out, HBW.out⟩

end Go.Proofs.YtjhkecnnhddhbaaGreatDoor.Ev
