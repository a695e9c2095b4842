import Derived.Test.YtabnimgpednhjabGreatBkM
namespace Go.Proofs.YtabnimgpednhjabGreat
open Go.RowKit Go.Maps
set_option maxRecDepth 100000
theorem run_makeMap70 (w : World) : (Instr.makeMap 70 none).run Tryz.prog w = .ok (.map (some w.heap.size)) (w.alloc (.map #[] 0)) := by
 simp [Instr.makeMap]
theorem st_zero (w : World) (B0 B1 B2 B3 : Nat) : StA w ((((w.alloc (.cells (Mv.cells (tgM B0 B1 B2 B3) 3) 35)).alloc (.map #[] 0)).alloc (.cells #[.pointer none, .slice (some ⟨B0, 0, none⟩) 3 3, .map (some (w.heap.size + 1))] 72)).alloc (.cells #[.int .i64 0] 3)) B0 := by
 refine ⟨⟨by simp [go_sem], by simp [go_sem], by simp [go_sem], by simp [go_sem], by simp [go_sem], by simp [go_sem], bal (bal (bal (bal (Below.refl _ _) _) _) _) _, by simp⟩, ?_, by simp [go_sem]⟩
 have h := ((World.ownsMap_made (w.alloc (.cells (Mv.cells (tgM B0 B1 B2 B3) 3) 35)) Tryz.prog 3 slR).alloc (.cells #[.pointer none, .slice (some ⟨B0, 0, none⟩) 3 3, .map (some (w.heap.size + 1))] 72)).alloc (.cells #[.int .i64 0] 3)
 simpa using h
theorem index0 (w : World) : (Instr.index 81 (.agg #[.int .i64 2, .int .i64 3]) (.int .i64 0)).run Tryz.prog w = .ok (.int .i64 2) w := by kernel_rfl
theorem index1 (w : World) : (Instr.index 81 (.agg #[.int .i64 2, .int .i64 3]) (.int .i64 1)).run Tryz.prog w = .ok (.int .i64 3) w := by kernel_rfl
structure Bz (w : World) (P M B0 G n : Nat) (D : DataW Unit) : Prop where
 b1 : w.cell? ⟨P, 1, none⟩ = some (.slice (some ⟨B0, 0, none⟩) 3 3)
 b2 : w.cell? ⟨P, 2, none⟩ = some (.map (some M))
 own : w.ownsMap Tryz.prog 3 slR M n D
 has1 : Maps.has D (.int .i64 1) = true
 at1 : D.atKey (.int .i64 1) .nil = slD G 0 1 1
 row : Gg.IRow w G [2]
 ltM : M < w.heap.size
 nePM : P ≠ M
 neGM : G ≠ M
structure Gz (w : World) (P M : Nat) : Prop where
 g : ∃ X pv cv, w.cell? ⟨P, 0, none⟩ = some (.pointer (some ⟨X, 0, none⟩)) ∧ w.cell? ⟨X, 0, none⟩ = some (.int .i64 1) ∧ w.cell? ⟨X, 1, none⟩ = some (.slice pv 0 cv) ∧ P ≠ M ∧ X ≠ M
theorem map_nil : IsMap (DataW.map [] : DataW Unit) := ⟨[], rfl⟩
theorem no_two (d : DataW Unit) : Maps.has ((DataW.map [] : DataW Unit).put (.int .i64 1) d) (.int .i64 2) = false := by
 rw [has_put_other (by simp)]; rfl
theorem nil_two (d : DataW Unit) : ((DataW.map [] : DataW Unit).put (.int .i64 1) d).atKey (.int .i64 2) .nil = .nil := by
 rw [atKey_put_other (by simp)]; rfl
theorem bz_first {w w4 : World} {B0 G X : Nat} (hs : StB w w4 B0 G) : Bz (w4.setCell ⟨w.heap.size + 2, 0, none⟩ (.pointer (some ⟨X, 0, none⟩))) (w.heap.size + 2) (w.heap.size + 1) B0 G 1 ((DataW.map []).put (.int .i64 1) (slD G 0 1 1)) := by
 have := hs.c.sz
 have := hs.g
 refine ⟨?_, ?_, map_block hs.own (Below.heap_setCell w4 _ _ _ (by simp)), ?_, ?_, hs.row.kept (Below.heap_setCell w4 _ _ _ (by simp; omega)), by simp; omega, by omega, by omega⟩
 · rw [World.cell?_setCell_other w4 _ _ _ (by simp)]; exact hs.c.b1
 · rw [World.cell?_setCell_other w4 _ _ _ (by simp)]; exact hs.c.b2
 · exact has_put_same map_nil (k := .int .i64 1) trivial _
 · exact atKey_put_same map_nil (k := .int .i64 1) trivial _ _
theorem StB.later {w wr w1 : World} {B0 G : Nat} (h : StB w wr B0 G) (hb : Below wr.heap.size wr w1) : StB w w1 B0 G := ⟨h.c.later hb, map_block h.own (hb.block _ (by have := h.c.sz; omega)), cell_later hb h.cnt, h.row.kept (hb.block _ (World.block_lt_of_cell? _ _ (h.row 0 (by simp)).1)), h.g⟩
def StK (w wr : World) (B0 k : Nat) : Prop := (k ≤ 1 ∧ StA w wr B0) ∨ (k = 2 ∧ ∃ G, StB w wr B0 G)
set_option maxHeartbeats 8000000 in
theorem startT_any (B0 B1 B2 B3 : Nat) (w : World) (hT : TgAt w B0 B1 B2 B3) :
   Calls Tryz.prog 33 #[Mv.val (tgM B0 B1 B2 B3) 3] w fun e w' => ∃ P M G D, e = .returned (.pointer (some ⟨P, 0, none⟩)) ∧ Bz w' P M B0 G 1 D ∧ Maps.has D (.int .i64 2) = false ∧ D.atKey (.int .i64 2) .nil = .nil ∧ Gz w' P M ∧ w.heap.size ≤ M ∧ Below w.heap.size w w' := by
 have HT := hide hT
 have hmm := run_makeMap70
 have HZ := hide (st_zero w B0 B1 B2 B3)
 have HOK2 := hide (fun (w' : World) (hb : Below w.heap.size w w') => ofKind_any (some ⟨B0, 0, none⟩) 3 tgN (by decide) 2 w' (hT.n.later hb))
 have HOK3 := hide (fun (w' : World) (hb : Below w.heap.size w w') => ofKind_any (some ⟨B0, 0, none⟩) 3 tgN (by decide) 3 w' (hT.n.later hb))
 rw [tg_sel2] at HOK2
 rw [tg_sel] at HOK3
 clear hT
 go_enter Tryz.func33, Tryz.ntmps33
 go_wp2
 go_loopw [17] (fun i wr => ∃ k : Nat, k ≤ 2 ∧ i = .int .i64 k ∧ Hid (StK w wr B0 k)) (fun i _ => 2 - (intOf i).toNat)
 case atStart => exact ⟨0, Nat.zero_le _, rfl, Or.inl ⟨Nat.zero_le _, HZ.out⟩⟩
 case round =>
   clear HZ
   obtain ⟨k, hk, rfl, HS⟩ := hrel
   rcases HS.out with ⟨hk1, hA⟩ | ⟨rfl, G, hBB⟩
   · have HA := hide hA
     have q0 := hA.c.q0
     have HB0 := hide hA.c.bel
     clear hA
     by_cases hk0 : k = 0
     · subst hk0
       have hix := index0
       go_wp2_with fail
       refine (HOK2.out _ HB0.out).mono ?_
       rintro e w1 ⟨p1, c1, rfl, _, hb1⟩
       have HA1 := hide (HA.out.later hb1)
       clear hb1 q0 HA
       go_wp2
       go_loopw [25] (fun i wr => i = .int .i64 0 ∧ wr = w1) (fun _ _ => 0)
       case atStart => exact ⟨rfl, rfl⟩
       case round =>
         obtain ⟨rfl, rfl⟩ := hrel
         go_wp2
         go_roundw
         case rel => exact ⟨1, by omega, by go_num, Or.inl ⟨Nat.le_refl _, HA1.out⟩⟩
         case measure => simp [intOf]
     · obtain rfl : k = 1 := by omega
       have hix := index1
       go_wp2_with fail
       refine (HOK3.out _ HB0.out).mono ?_
       rintro e w1 ⟨p1, c1, rfl, hI1, hb1⟩
       have HA1 := hide (HA.out.later hb1)
       have HI1 := hide hI1
       clear hb1 q0 HA hI1
       go_wp2
       go_loopw [25] (fun i wr => ∃ j : Nat, j ≤ 1 ∧ i = .int .i64 j ∧ ((j = 0 ∧ wr = w1) ∨ (j = 1 ∧ Hid (∃ G, StB w wr B0 G)))) (fun i _ => 1 - (intOf i).toNat)
       case atStart => exact ⟨0, by omega, rfl, Or.inl ⟨rfl, rfl⟩⟩
       case round =>
         obtain ⟨j, hj, rfl, ⟨rfl, hw1⟩ | ⟨rfl, HBB⟩⟩ := hrel
         · subst hw1
           obtain ⟨b, off, rfl, hc⟩ := HI1.out (by simp)
           have hc0 : wr.cell? ⟨b, off, none⟩ = some (.int .i64 1) := by simpa using hc 0 (by simp)
           obtain ⟨nb, no, hne, hnc⟩ := (HT.out.n.later HA1.out.c.bel) (by decide)
           cases hne
           have n1 := (hnc 1 (by decide)).2.1
           simp [tgN] at n1
           have j2 : wr.cell? ⟨w.heap.size + 1 + 1, 2, none⟩ = some (.map (some (w.heap.size + 1))) := HA1.out.c.b2
           have j0 := HA1.out.c.q0
           have hBne : B0 < w.heap.size := by
             obtain ⟨nb, no, hne, hnc⟩ := HT.out.n (by decide)
             cases hne
             exact World.block_lt_of_cell? _ _ (hnc 1 (by decide)).2.1
           have HNI := hide (nextIn_any (w.heap.size + 3) wr.drew w.heap.size (by omega) (by have := HA1.out.c.sz; simp; omega) HA1.out.cnt HA1.out.c.i)
           clear hc hnc
           go_wp2
           go_region_held3 (fun w' => w'.cell? ⟨w.heap.size + 1 + 1, 2, none⟩ = some (.map (some (w.heap.size + 1))) ∧ w'.cell? ⟨w.heap.size, 0, none⟩ = some (.slice (some ⟨B0, 0, none⟩) 3 3) ∧ w'.cell? ⟨B0, 7, none⟩ = some (.int .i64 1))
             (first
               | exact ⟨hg3.cell m2 (by simp), hg3.cell m0 (by simp), hg3.cell m7 (by simp; omega)⟩
               | exact ⟨m2, m0, m7⟩
               | go_keep)
             ((go_at_call 56; refine HNI.out.mono ?_; rintro e w2 ⟨G, rfl, hG, hr, hcn, hfn, hb2, hk2⟩
               have m2 : w2.cell? ⟨w.heap.size + 1 + 1, 2, none⟩ = some (.map (some (w.heap.size + 1))) := kept_cell j2 hk2 (by simp)
               have m0 : w2.cell? ⟨w.heap.size, 0, none⟩ = some (.slice (some ⟨B0, 0, none⟩) 3 3) := kept_cell j0 hk2 (by simp)
               have m7 : w2.cell? ⟨B0, 7, none⟩ = some (.int .i64 1) := kept_cell n1 hk2 (by simp; omega)
               obtain ⟨w3, hput, hown3, hg3⟩ := put70 (map_block HA1.out.own (hk2 (w.heap.size + 1) (by omega) (by have := HA1.out.c.sz; simp; omega))) (by omega) (x := 1) (by decide) (by decide) G 0 1 1))
           rename_i hHeld
           have HSB := hide (st_made HA1.out (Nat.le_trans (by simp) hb2.size) (by simpa using hG) hr hcn hfn ((Below.refl _ wr).drew.trans hb2) hk2 hown3 hg3)
           clear hHeld hr hcn hfn hb2 hk2 hown3 hg3 hput m2 m0 m7 HNI hG j2 j0 n1 hc0
           go_wp2
           go_roundw
           case rel => exact ⟨1, by omega, by go_num, Or.inr ⟨rfl, G, HSB.out⟩⟩
           case measure => simp [intOf]
         · go_wp2
           go_roundw
           case rel => exact ⟨2, by omega, by go_num, Or.inr ⟨rfl, HBB.out⟩⟩
           case measure => simp [intOf]
   · have x0 := hBB.cnt
     have HBB := hide hBB
     clear hBB
     have hcnt : wr.cell? ⟨w.heap.size + 1 + 1 + 1, 0, none⟩ = some (.int .i64 1) := x0
     have HF := hide (fun w1 => Gg.from_any 1 none 0 [] (fun i h => by simp at h) (by simp) (by decide) (by decide) w1 (fun h => by simp at h))
     go_wp2_with fail
     refine (HF.out _).mono ?_
     rintro e w4 ⟨X, Bx, vx, Dx, rfl, hmk, _, _, hb4⟩
     have HS4 := hide (HBB.out.later hb4)
     have g0 : w4.cell? ⟨w.heap.size + 1 + 1, 0, none⟩ = some (.pointer none) := HS4.out.c.b0
     have g1 : w4.frozen? ⟨w.heap.size + 1 + 1, 0, none⟩ = false := HS4.out.c.bf
     have HMK := hide hmk
     have HB4 := hide hb4
     clear hb4 hmk x0 hcnt HF
     go_wp2
     go_ret
     obtain ⟨pv, cv, rfl, _⟩ := Gg.owns_pairs HMK.out.row
     have hX := HMK.out.hM
     have hs := HBB.out.c.sz
     have hp := World.cell?_setCell_same w4 ⟨w.heap.size + 2, 0, none⟩ (.pointer (some ⟨X, 0, none⟩)) HS4.out.c.b0
     refine ⟨w.heap.size + 2, w.heap.size + 1, G, _, rfl, bz_first HS4.out, no_two _, nil_two _, ⟨X, pv, cv, hp, ?_, ?_, by omega, by omega⟩, by omega, (bthen HBB.out.c.bel HB4.out).setCell (p := ⟨w.heap.size + 2, 0, none⟩) (by simp) _⟩
     · rw [World.cell?_setCell_other w4 _ _ _ (by simp)]; exact HMK.out.c0
     · rw [World.cell?_setCell_other w4 _ _ _ (by simp)]; exact HMK.out.c1
end Go.Proofs.YtabnimgpednhjabGreat

namespace Go.Proofs.YtabnimgpednhjabGreat.Gg
open Go.RowKit Go.Maps Go.WideMaps
set_option maxRecDepth 100000
theorem nextInN_any (m x : Nat) (hm : m ≤ 8) (hx : x ≤ 100) (Bi : Nat) (w : World) (base : Nat) (hb : base ≤ Bi) (hB : base ≤ w.heap.size) (c0 : w.cell? ⟨Bi, 0, none⟩ = some (.int .i64 x)) (f0 : w.frozen? ⟨Bi, 0, none⟩ = false) :
   Calls Tryz.prog 56 #[.int .i64 m, .func (.func 58) #[] #[.pointer (some ⟨Bi, 0, none⟩)]] w fun e w' => ∃ G, e = .returned (.slice (some ⟨G, 0, none⟩) m m) ∧ w.heap.size ≤ G ∧ IRow w' G ((List.range m).map fun k : Nat => 2 * ((x : Int) + k + 1)) ∧ w'.cell? ⟨Bi, 0, none⟩ = some (.int .i64 ((x + m : Nat) : Int)) ∧ w'.frozen? ⟨Bi, 0, none⟩ = false ∧ Below base w w' ∧ ∀ g, ¬ g = Bi → g < w.heap.size → w'.heap[g]? = w.heap[g]? := by
 have h := made_any 58 (.pointer (some ⟨Bi, 0, none⟩)) (fun k => 2 * ((x : Int) + (k : Int) + 1)) m base (by omega) (fun g => g = Bi) (fun k wr => wr.cell? ⟨Bi, 0, none⟩ = some (.int .i64 ((x + k : Nat) : Int)) ∧ wr.frozen? ⟨Bi, 0, none⟩ = false) w hB (fun g h => by subst h; exact World.block_lt_of_cell? _ _ c0) ⟨c0, f0⟩
   (fun _ w1 w2 h hk => ⟨cell_block h.1 (hk _ rfl), by rw [World.frozen?_of_block (w := w1) (a := ⟨Bi, 0, none⟩) (hk _ rfl)]; exact h.2⟩) enter58
   (fun k hk wr _ hj => (start1_any k (x + k) (by omega) Bi wr hj.1 hj.2).mono fun e w' ⟨h1, h2⟩ => by
     subst h2
     refine ⟨?_, ⟨?_, by rw [World.frozen?_setCell]; exact hj.2⟩, (Below.refl _ wr).setCell hb _, fun g hg _ => Below.heap_setCell wr _ _ g (by simpa using hg)⟩
     · rw [h1]; push_cast; rfl
     · rw [World.cell?_setCell_same wr _ _ hj.1]; push_cast; rw [Int.add_assoc])
 exact h.mono fun e w' ⟨G, h1, h2, h3, h4, h5, h6⟩ => ⟨G, h1, h2, h3, h4.1, h4.2, h5, h6⟩
def inL (ns : List Nd) : List Int := sel (isK ns 2) ns.length ++ sel (isK ns 3) ns.length
def inT (ns : List Nd) (t : Nat) : Nat := (((inL ns).take t).map fun k => (wdOf ns k).toNat).sum
def inB (ns : List Nd) (t : Nat) : List Int := (List.range (wdOf ns ((inL ns).getD t 0)).toNat).map fun k : Nat => 2 * ((inT ns t : Int) + k + 1)
theorem inT_succ {ns : List Nd} {t : Nat} (h : t < (inL ns).length) : inT ns (t + 1) = inT ns t + (wdOf ns ((inL ns).getD t 0)).toNat := by
 unfold inT
 rw [List.take_succ_eq_append_getElem h, List.map_append, List.sum_append, getD_at h]
 simp
theorem inB_len (ns : List Nd) (t : Nat) : (inB ns t).length = (wdOf ns ((inL ns).getD t 0)).toNat := by simp [inB]
structure St (a0 : Option Addr) (c0 : Nat) (ns : List Nd) (w wr : World) (D : DataW Unit) (t : Nat) : Prop where
 q0 : wr.cell? ⟨w.heap.size, 0, none⟩ = some (.slice a0 ns.length c0)
 b0 : wr.cell? ⟨w.heap.size + 2, 0, none⟩ = some (.pointer none)
 b1 : wr.cell? ⟨w.heap.size + 2, 1, none⟩ = some (.slice a0 ns.length c0)
 b2 : wr.cell? ⟨w.heap.size + 2, 2, none⟩ = some (.map (some (w.heap.size + 1)))
 bf : wr.frozen? ⟨w.heap.size + 2, 0, none⟩ = false
 i : wr.frozen? ⟨w.heap.size + 3, 0, none⟩ = false
 bel : Below w.heap.size w wr
 sz : w.heap.size + 4 ≤ wr.heap.size
 own : wr.ownsMap Tryz.prog 3 slR (w.heap.size + 1) (kn D ns.length) D
 cnt : wr.cell? ⟨w.heap.size + 3, 0, none⟩ = some (.int .i64 (inT ns t : Nat))
 k2 : ∀ i, i < t → i < (inL ns).length → Maps.has D (.int .i64 ((inL ns).getD i 0)) = true ∧ ∃ b, D.atKey (.int .i64 ((inL ns).getD i 0)) .nil = slD b 0 (inB ns i).length (inB ns i).length ∧ IRow wr b (inB ns i) ∧ w.heap.size + 4 ≤ b ∧ b < wr.heap.size
 k3 : ∀ k : Int, (∀ i, i < t → i < (inL ns).length → (inL ns).getD i 0 ≠ k) → Maps.has D (.int .i64 k) = false ∧ D.atKey (.int .i64 k) .nil = .nil
theorem St.later {a0 : Option Addr} {c0 : Nat} {ns : List Nd} {w wr w1 : World} {D : DataW Unit} {t : Nat} (h : St a0 c0 ns w wr D t) (hb : Below wr.heap.size wr w1) : St a0 c0 ns w w1 D t :=
 ⟨cell_later hb h.q0, cell_later hb h.b0, cell_later hb h.b1, cell_later hb h.b2, by rw [hb.frozen (World.block_lt_of_cell? _ _ h.b0)]; exact h.bf, by rw [hb.frozen (World.block_lt_of_cell? _ _ h.cnt)]; exact h.i, bthen h.bel hb, Nat.le_trans h.sz hb.size, map_block h.own (hb.block _ h.own.lt), cell_later hb h.cnt,
   fun i hi hl => by
     obtain ⟨h1, b, h2, h3, h4, h5⟩ := h.k2 i hi hl
     exact ⟨h1, b, h2, h3.kept (hb.block _ h5), h4, Nat.lt_of_lt_of_le h5 hb.size⟩, h.k3⟩
theorem St.step {a0 : Option Addr} {c0 : Nat} {ns : List Nd} {w wr w1 w2 : World} {D : DataW Unit} {t G : Nat} (h : St a0 c0 ns w wr D t) (ht : t < (inL ns).length) (hd : ∀ i j, i < j → j < (inL ns).length → (inL ns).getD i 0 ≠ (inL ns).getD j 0) (hin : 0 ≤ (inL ns).getD t 0 ∧ (inL ns).getD t 0 < ns.length)
   (hG : wr.heap.size ≤ G) (hlG : G < w1.heap.size) (hr : IRow w1 G (inB ns t)) (hc : w1.cell? ⟨w.heap.size + 3, 0, none⟩ = some (.int .i64 (inT ns (t + 1) : Nat))) (hf : w1.frozen? ⟨w.heap.size + 3, 0, none⟩ = false) (hb : Below w.heap.size wr w1) (hk : ∀ g, ¬ g = w.heap.size + 3 → g < wr.heap.size → w1.heap[g]? = wr.heap[g]?)
   (hown : w2.ownsMap Tryz.prog 3 slR (w.heap.size + 1) (kn D ns.length + 1) (D.put (.int .i64 ((inL ns).getD t 0)) (slD G 0 (inB ns t).length (inB ns t).length))) (hg : w1.grownBy w2 (some (w.heap.size + 1))) :
   St a0 c0 ns w w2 (D.put (.int .i64 ((inL ns).getD t 0)) (slD G 0 (inB ns t).length (inB ns t).length)) (t + 1) := by
 have hm := h.own.isMap
 have hs := h.sz
 have hne : ∀ i, i < t → (inL ns).getD i 0 ≠ (inL ns).getD t 0 := fun i hi => hd i t hi ht
 have hno := (h.k3 _ (fun i hi _ => hne i hi)).1
 have cc : ∀ {q : Addr} {x : Value}, wr.cell? q = some x → q.block ≠ w.heap.size + 3 → q.block ≠ w.heap.size + 1 → w2.cell? q = some x := fun {q x} h1 h2 h3 => hg.cell (kept_cell h1 hk h2) (by simpa using h3)
 have e : ((inL ns).getD t 0) = ((((inL ns).getD t 0).toNat : Nat) : Int) := by omega
 refine ⟨cc h.q0 (by simp) (by simp), cc h.b0 (by simp) (by simp), cc h.b1 (by simp) (by simp), cc h.b2 (by simp) (by simp), ?_, ?_, (h.bel.trans hb).grown hg (by have := hb.size; omega) (fun j hj => by cases hj; omega), Nat.le_trans hs (Nat.le_trans hb.size hg.size), ?_, hg.cell hc (by simp), fun i hi hl => ?_, fun k hk3 => ?_⟩
 · have hcb := kept_cell h.b0 hk (by simp)
   rw [grown_frozen hg hcb (by simp), World.frozen?_of_block (w := wr) (a := ⟨w.heap.size + 2, 0, none⟩) (hk _ (by simp) (by simp only; omega))]
   exact h.bf
 · rw [grown_frozen hg hc (by simp)]; exact hf
 · rw [e] at hown ⊢
   rw [e] at hno
   rw [kn_put hm hno, if_pos (by omega)]
   exact hown
 · by_cases ei : i = t
   · subst ei
     exact ⟨has_put_same hm (k := .int .i64 _) trivial _, G, atKey_put_same hm (k := .int .i64 _) trivial _ _, hr.kept (hg.block G hlG (by simp; omega)), by omega, Nat.lt_of_lt_of_le hlG hg.size⟩
   · have hi' : i < t := by omega
     obtain ⟨h1, b, h2, h3, h4, h5⟩ := h.k2 i hi' hl
     have hn := hne i hi'
     rw [has_put_other (by simpa using hn), atKey_put_other (by simpa using hn)]
     exact ⟨h1, b, h2, (h3.kept (hk b (by omega) h5)).kept (hg.block b (Nat.lt_of_lt_of_le h5 hb.size) (by simp; omega)), h4, Nat.lt_of_lt_of_le h5 (Nat.le_trans hb.size hg.size)⟩
 · have hn : (inL ns).getD t 0 ≠ k := hk3 t (by omega) ht
   have hn' := Ne.symm hn
   rw [has_put_other (by simpa using hn'), atKey_put_other (by simpa using hn')]
   exact h.k3 k (fun i hi hl => hk3 i (by omega) hl)
end Go.Proofs.YtabnimgpednhjabGreat.Gg

namespace Go.Proofs.YtabnimgpednhjabGreat
open Go.RowKit
set_option maxRecDepth 100000 in
set_option maxHeartbeats 1000000 in
theorem ofKind2_any (p0 : Option Addr) (cap0 : Nat) (ns : List Nd) (hl : ns.length ≤ 2932031007402) (kind : Int) (w : World) (hN : NodesAt w p0 ns) :
   Calls Tryz.prog 52 #[.slice p0 ns.length cap0, .int .i64 kind] w fun e w' =>
     ∃ p cap, e = .returned (.slice p (sel (isK ns kind) ns.length).length cap) ∧ IntsAt w' p (sel (isK ns kind) ns.length) ∧ Below w.heap.size w w' ∧ ∀ b off, p = some ⟨b, off, none⟩ → w.heap.size ≤ b := by
 obtain ⟨i0, hi, hz0, hz1, hz2⟩ := info_parts info3
 go_enter Tryz.func52, Tryz.ntmps52
 go_wp2
 go_loopw [5, 10] (fun v i wr => ∃ k : Nat, k ≤ ns.length ∧ i = .int .i64 k ∧ wr.ownsRow w.heap.size 3 1 v (sel (isK ns kind) k).length ((sel (isK ns kind) k).map (Value.int .i64)) ∧ Below w.heap.size w wr) (fun _ i _ => ns.length - (intOf i).toNat)
 case atStart => exact ⟨0, Nat.zero_le _, rfl, World.ownsRow_nil _ _ _ _, Below.refl _ _⟩
 case round =>
   obtain ⟨k, hk, rfl, hown, hbw⟩ := hrel
   have hsz := hbw.size
   by_cases hlt : k < ns.length
   · obtain ⟨b, off, rfl, hc⟩ := (hN.later hbw) (by omega)
     obtain ⟨d0, d1, d2, d3, d4, d5⟩ := hc k hlt
     have HI := hide (isK_at (kind := kind) hlt)
     clear hc
     generalize ns[k] = nd at *
     obtain ⟨kd, v, x, y, z, n⟩ := nd
     simp only at *
     cases hf : (kd == kind)
     · have HS : Hid (sel (isK ns kind) (k + 1) = sel (isK ns kind) k) := sel_no (by rw [HI.out, hf])
       clear HI
       go_wp2
       go_roundw
       case rel => exact ⟨k + 1, by omega, by go_num, by rw [HS.out]; exact hown.alloc _, bal hbw _⟩
       case measure => simp [intOf]; omega
     · have HS : Hid (sel (isK ns kind) (k + 1) = sel (isK ns kind) k ++ [(k : Int)]) := sel_yes (by rw [HI.out, hf])
       have hsl := sel_len (isK ns kind) k
       clear HI
       generalize sel (isK ns kind) k = l at *
       go_wp2_with (at_builtin; refine wpList_append_own _ rfl _ _ 25 rfl w.heap.size 3 i0 (.int .i64 0) 1 8 Tryz.underlying25 hi hz0 hz1 hz2 rfl (by decide) _ _ _ rfl ((hown.alloc _).alloc _) ⟨wr.heap.size + 1, 0, none⟩ 1 1 [.int .i64 (k : Int)] rfl rfl ?c1 ?c2 ?c3 ?c4 ?c5 ?_)
       case c1 =>
         intro j u hj
         match j, hj with
         | 0, hj => simp at hj; subst hj; simp [Addr.add]
       case c2 => intro u hu; simp at hu; subst hu; rfl
       case c3 => unfold maxLen; omega
       case c4 => omega
       case c5 => simp; omega
       intro v' w1 hown' hgrow _
       have R := owns_later2 hown hown' hgrow hbw (by omega)
       rw [← HS.out] at R
       clear hown' hgrow hown
       go_wp2
       go_roundw
       case rel => exact ⟨k + 1, by omega, by go_num, R.1, R.2⟩
       case measure => simp [intOf]; omega
   · obtain rfl : k = ns.length := by omega
     obtain ⟨p, cap, rfl, hI⟩ := owns_ints hown
     have HLT : Hid (∀ b off, p = some ⟨b, off, none⟩ → w.heap.size ≤ b) := fun b off e => by subst e; exact (hown.lt b rfl).1
     clear hown
     go_wp2
     go_ret
     exact ⟨p, cap, rfl, hI, hbw, HLT.out⟩
end Go.Proofs.YtabnimgpednhjabGreat
namespace Go.Proofs.YtabnimgpednhjabGreat.Gg
open Go.RowKit Go.Maps Go.WideMaps
set_option maxRecDepth 100000
theorem sel_nodup (f : Nat → Bool) (n : Nat) : (sel f n).Nodup := by
 unfold sel
 refine List.Pairwise.map _ (fun a b h e => h ?_) ((List.nodup_range).filter f)
 exact_mod_cast e
theorem sel_mem {f : Nat → Bool} {n : Nat} {x : Int} : x ∈ sel f n ↔ ∃ i : Nat, i < n ∧ f i = true ∧ x = i := by
 unfold sel
 simp only [List.mem_map, List.mem_filter, List.mem_range]
 constructor
 · rintro ⟨i, ⟨h1, h2⟩, rfl⟩; exact ⟨i, h1, h2, rfl⟩
 · rintro ⟨i, h1, h2, rfl⟩; exact ⟨i, ⟨h1, h2⟩, rfl⟩
theorem inL_nodup (ns : List Nd) : (inL ns).Nodup := by
 unfold inL
 refine List.nodup_append.2 ⟨sel_nodup _ _, sel_nodup _ _, fun a ha b hb e => ?_⟩
 obtain ⟨i, h1, h2, rfl⟩ := sel_mem.1 ha
 obtain ⟨j, h3, h4, rfl⟩ := sel_mem.1 hb
 have e' : i = j := by exact_mod_cast e
 subst e'
 rw [isK_at h1] at h2 h4
 simp at h2 h4
 omega
theorem inL_ne (ns : List Nd) : ∀ i j, i < j → j < (inL ns).length → (inL ns).getD i 0 ≠ (inL ns).getD j 0 := fun i j hij hj => by
 rw [getD_at hj, getD_at (Nat.lt_trans hij hj)]
 exact List.pairwise_iff_getElem.1 (inL_nodup ns) i j (Nat.lt_trans hij hj) hj hij
theorem inL_mem {ns : List Nd} {x : Int} (hm : x ∈ inL ns) : 0 ≤ x ∧ x < ns.length := by
 unfold inL at hm
 rcases List.mem_append.1 hm with hm | hm
 · obtain ⟨j, h1, _, e⟩ := sel_mem.1 hm
   omega
 · obtain ⟨j, h1, _, e⟩ := sel_mem.1 hm
   omega
theorem inL_in {ns : List Nd} {i : Nat} (h : i < (inL ns).length) : 0 ≤ (inL ns).getD i 0 ∧ (inL ns).getD i 0 < ns.length := by
 rw [getD_at h]
 exact inL_mem (List.getElem_mem h)
theorem inL_has {ns : List Nd} {k : Nat} (hk : k < ns.length) (h : ns[k].kind = 2 ∨ ns[k].kind = 3) : ∃ i, i < (inL ns).length ∧ (inL ns).getD i 0 = k := by
 have hm : (k : Int) ∈ inL ns := by
   unfold inL
   rcases h with h | h
   · exact List.mem_append_left _ (sel_mem.2 ⟨k, hk, by rw [isK_at hk, h]; rfl, rfl⟩)
   · exact List.mem_append_right _ (sel_mem.2 ⟨k, hk, by rw [isK_at hk, h]; rfl, rfl⟩)
 obtain ⟨i, hi, e⟩ := List.getElem_of_mem hm
 exact ⟨i, hi, by rw [getD_at hi]; exact e⟩
theorem inT_le (ns : List Nd) : ∀ d t, t + d = (inL ns).length → inT ns t ≤ inT ns (inL ns).length := by
 intro d
 induction d with
 | zero => intro t h; rw [← h]; exact Nat.le_refl _
 | succ d ih =>
   intro t h
   have := inT_succ (ns := ns) (t := t) (by omega)
   have := ih (t + 1) (by omega)
   omega
theorem inL_two {ns : List Nd} {j : Nat} (h : j < (sel (isK ns 2) ns.length).length) : (inL ns).getD j 0 = (sel (isK ns 2) ns.length)[j] := by
 unfold inL
 rw [List.getD, List.getElem?_append_left h, List.getElem?_eq_getElem h]; rfl
theorem inL_three {ns : List Nd} {j : Nat} (h : j < (sel (isK ns 3) ns.length).length) : (inL ns).getD ((sel (isK ns 2) ns.length).length + j) 0 = (sel (isK ns 3) ns.length)[j] := by
 unfold inL
 rw [List.getD, List.getElem?_append_right (by omega), Nat.add_sub_cancel_left, List.getElem?_eq_getElem h]; rfl
theorem inL_length (ns : List Nd) : (inL ns).length = (sel (isK ns 2) ns.length).length + (sel (isK ns 3) ns.length).length := by unfold inL; simp
end Go.Proofs.YtabnimgpednhjabGreat.Gg

namespace Go.Proofs.YtabnimgpednhjabGreat.Gg
open Go.RowKit Go.Maps Go.WideMaps
set_option maxRecDepth 100000
theorem kn_zero (N : Nat) : kn (.map [] : DataW Unit) N = 0 := by
 induction N with
 | zero => rfl
 | succ N ih => rw [kn, ih]; rfl
theorem st_zeroN (a0 : Option Addr) (c0 : Nat) (ns : List Nd) (m : Mv) (h0 : m.a0 = a0) (hc : m.c0 = c0) (w : World) : St a0 c0 ns w ((((w.alloc (.cells (m.cells ns.length) 35)).alloc (.map #[] 0)).alloc (.cells #[.pointer none, .slice a0 ns.length c0, .map (some (w.heap.size + 1))] 72)).alloc (.cells #[.int .i64 0] 3)) (.map []) 0 := by
 have hb3 : Below (w.alloc (.cells (m.cells ns.length) 35)).heap.size (w.alloc (.cells (m.cells ns.length) 35)) ((((w.alloc (.cells (m.cells ns.length) 35)).alloc (.map #[] 0)).alloc (.cells #[.pointer none, .slice a0 ns.length c0, .map (some (w.heap.size + 1))] 72)).alloc (.cells #[.int .i64 0] 3)) := bal (bal (bal (Below.refl _ _) _) _) _
 have hq := (Box.new w m ns.length).1
 rw [h0, hc] at hq
 refine ⟨cell_later hb3 hq, by simp [go_sem], by simp [go_sem], by simp [go_sem], by simp [go_sem], by simp [go_sem], bal (bal (bal (bal (Below.refl _ _) _) _) _) _, by simp, ?_, by simp [go_sem, inT], fun i hi => by omega, fun k _ => ⟨rfl, rfl⟩⟩
 rw [kn_zero]
 have h := ((World.ownsMap_made (w.alloc (.cells (m.cells ns.length) 35)) Tryz.prog 3 slR).alloc (.cells #[.pointer none, .slice a0 ns.length c0, .map (some (w.heap.size + 1))] 72)).alloc (.cells #[.int .i64 0] 3)
 simpa using h
set_option maxHeartbeats 8000000 in
theorem startN_any (m : Mv) (ns : List Nd) (hl80 : ns.length ≤ 80) (hW : ∀ k, k < ns.length → 1 ≤ wdOf ns k ∧ wdOf ns k ≤ 8) (hT : inT ns (inL ns).length ≤ 16) (w : World) (hN : NodesAt w m.a0 ns) :
   Calls Tryz.prog 33 #[m.val ns.length] w fun e w' => ∃ (D : DataW Unit) (w4 : World) (M B : Nat) (v : Value), e = .returned (.pointer (some ⟨w.heap.size + 2, 0, none⟩)) ∧ St m.a0 m.c0 ns w w4 D (inL ns).length ∧ w' = w4.setCell ⟨w.heap.size + 2, 0, none⟩ (.pointer (some ⟨M, 0, none⟩)) ∧ ∃ wp, Below w.heap.size w wp ∧ w.heap.size + 4 ≤ wp.heap.size ∧ St m.a0 m.c0 ns w wp D (inL ns).length ∧ Below wp.heap.size wp w4 ∧ Mk w4 wp.heap.size M B v (inT ns (inL ns).length : Nat) [] ∧ ∃ DM, w4.ownsMap Tryz.prog 81 (plainElem Tryz.prog 3) B 0 DM ∧ MapIs (inT ns (inL ns).length : Nat) [] 0 DM := by
 obtain ⟨a0, c0, a1, l1, c1, a2, l2, c2, a3, l3, c3, a4, l4, c4⟩ := m
 have hmm := run_makeMap70
 have HZ := hide (st_zeroN a0 c0 ns ⟨a0, c0, a1, l1, c1, a2, l2, c2, a3, l3, c3, a4, l4, c4⟩ rfl rfl w)
 have HOK := hide (fun (kind : Int) (w' : World) (hb : Below w.heap.size w w') => ofKind2_any a0 c0 ns (by omega) kind w' (hN.later hb))
 have HN := hide hN
 have HWW := hide hW
 have HTT := hide hT
 clear hN hW hT
 go_enter Tryz.func33, Tryz.ntmps33
 go_wp2_with fail
 go_loopw [17] (fun i wr => ∃ (k : Nat) (D : DataW Unit), k ≤ 2 ∧ i = .int .i64 k ∧ Hid (St a0 c0 ns w wr D (if k = 0 then 0 else if k = 1 then (sel (isK ns 2) ns.length).length else (inL ns).length))) (fun i _ => 2 - (intOf i).toNat)
 case atStart => exact ⟨0, .map [], Nat.zero_le _, rfl, HZ⟩
 case round =>
   clear HZ
   obtain ⟨k, D, hk, rfl, HS⟩ := hrel
   by_cases hk2 : k < 2
   · obtain ⟨kv, Sl, off, hix, hokv, hsl, hoff, hnext⟩ : ∃ (kv : Int) (Sl : List Int) (off : Nat), (∀ w : World, (Instr.index 81 (.agg #[.int .i64 2, .int .i64 3]) (.int .i64 (k : Int))).run Tryz.prog w = .ok (.int .i64 kv) w) ∧ Sl = sel (isK ns kv) ns.length ∧ (∀ j, j < Sl.length → off + j < (inL ns).length ∧ (inL ns).getD (off + j) 0 = Sl.getD j 0) ∧ (if k = 0 then 0 else if k = 1 then (sel (isK ns 2) ns.length).length else (inL ns).length) = off ∧ (if k + 1 = 0 then 0 else if k + 1 = 1 then (sel (isK ns 2) ns.length).length else (inL ns).length) = off + Sl.length := by
       have hle := inL_length ns
       by_cases hk0 : k = 0
       · subst hk0
         exact ⟨2, _, 0, index0, rfl, fun j hj => ⟨by omega, by rw [Nat.zero_add, inL_two hj, getD_at hj]⟩, rfl, by simp⟩
       · obtain rfl : k = 1 := by omega
         exact ⟨3, _, (sel (isK ns 2) ns.length).length, index1, rfl, fun j hj => ⟨by omega, by rw [inL_three hj, getD_at hj]⟩, rfl, by simp [hle]⟩
     rw [hoff] at HS
     have HNX := hide hnext
     have HSL := hide hsl
     have HO := hide (HOK.out kv)
     rw [← hokv] at HO
     have q0 := HS.out.q0
     have HB0 := hide HS.out.bel
     have hkl : (k : Int) < 2 := by omega
     have hs80 : Sl.length ≤ 80 := by rw [hokv]; have := sel_len (isK ns kv) ns.length; omega
     clear hokv hoff hnext hsl
     go_wp2_with fail
     refine (HO.out _ HB0.out).mono ?_
     rintro e w1 ⟨p1, c1, rfl, hI1, hb1, hnew⟩
     have HS1 := hide (HS.out.later hb1)
     have HI1 := hide (And.intro hI1 hnew)
     have hsz1 := HS.out.sz
     clear hI1 hb1 hnew q0 HS HO HB0
     go_wp2_with fail
     go_loopw [25] (fun i wr => ∃ (j : Nat) (D : DataW Unit), j ≤ Sl.length ∧ i = .int .i64 j ∧ Hid (St a0 c0 ns w wr D (off + j)) ∧ Hid (IntsAt wr p1 Sl)) (fun i _ => Sl.length - (intOf i).toNat)
     case atStart => exact ⟨0, D, Nat.zero_le _, rfl, HS1, fun h0 => HI1.out.1 h0⟩
     case round =>
       clear HS1
       obtain ⟨j, D, hj, rfl, HS, HI⟩ := hrel
       by_cases hlt : j < Sl.length
       · obtain ⟨b, off1, rfl, hc⟩ := HI.out (by omega)
         have hc0 := hc j hlt
         obtain ⟨hil, hie⟩ := HSL.out j hlt
         have hin := inL_in hil
         rw [hie, getD_at hlt] at hin
         have hbnew := HI1.out.2 _ _ rfl
         obtain ⟨nb, noff, rfl, hnc⟩ := (HN.out.later HS.out.bel) (by omega)
         have hnbl : nb < w.heap.size := by
           obtain ⟨nb', no', e, hnc'⟩ := HN.out (by omega)
           cases e
           exact World.block_lt_of_cell? _ _ (hnc' 0 (by omega)).1
         have n1 := (kd_wd hnc Sl[j] hin.1 hin.2).2
         have hw8 := HWW.out (Sl[j]).toNat (by omega)
         rw [show (((Sl[j]).toNat : Nat) : Int) = Sl[j] by omega] at hw8
         have HEB : Hid (inB ns (off + j) = (List.range (wdOf ns Sl[j]).toNat).map fun k : Nat => 2 * ((inT ns (off + j) : Int) + k + 1)) := by rw [Hid, inB, hie, getD_at hlt]
         have HET : Hid (inT ns (off + j + 1) = inT ns (off + j) + (wdOf ns Sl[j]).toNat) := by rw [Hid, inT_succ hil, hie, getD_at hlt]
         have HEX : Hid ((inL ns).getD (off + j) 0 = Sl[j]) := by rw [Hid, hie, getD_at hlt]
         have hTle : inT ns (off + j) ≤ 16 := Nat.le_trans (inT_le ns ((inL ns).length - (off + j)) (off + j) (by omega)) HTT.out
         have hjl : (j : Int) < (Sl.length : Int) := by omega
         have hxl : Sl[j] < (ns.length : Int) := hin.2
         have hx0 : 0 ≤ Sl[j] := hin.1
         have hxN : ((Sl[j].toNat : Nat) : Int) = Sl[j] := by omega
         have j2 : wr.cell? ⟨w.heap.size + 1 + 1, 2, none⟩ = some (.map (some (w.heap.size + 1))) := HS.out.b2
         have j0 := HS.out.q0
         have HNI := hide (nextInN_any (wdOf ns Sl[j]).toNat (inT ns (off + j)) (by omega) (by omega) (w.heap.size + 3) wr.drew w.heap.size (by omega) (by have := HS.out.sz; simp; omega) HS.out.cnt HS.out.i)
         rw [show (((wdOf ns Sl[j]).toNat : Nat) : Int) = wdOf ns Sl[j] by omega] at HNI
         have HIL := hide hil
         clear hc hnc hie hin hil
         generalize wdOf ns Sl[j] = wd at *
         generalize Sl[j] = x at *
         go_wp2_with fail
         go_region_held3 (fun w' => w'.cell? ⟨w.heap.size + 1 + 1, 2, none⟩ = some (.map (some (w.heap.size + 1))) ∧ w'.cell? ⟨w.heap.size, 0, none⟩ = some (.slice (some ⟨nb, noff, none⟩) ns.length c0) ∧ w'.cell? ⟨nb, noff + x.toNat * 6 + 1, none⟩ = some (.int .i64 wd))
           (first
             | exact ⟨hg3.cell m2 (by simp), hg3.cell m0 (by simp), hg3.cell m7 (by simp; omega)⟩
             | exact ⟨m2, m0, m7⟩
             | exact ⟨j2, j0, n1⟩
             | go_keep)
           ((go_at_call 56; refine HNI.out.mono ?_; rintro e w2 ⟨G, rfl, hG, hr, hcn, hfn, hb2, hk2⟩
             have m2 : w2.cell? ⟨w.heap.size + 1 + 1, 2, none⟩ = some (.map (some (w.heap.size + 1))) := kept_cell j2 hk2 (by simp)
             have m0 : w2.cell? ⟨w.heap.size, 0, none⟩ = some (.slice (some ⟨nb, noff, none⟩) ns.length c0) := kept_cell j0 hk2 (by simp)
             have m7 : w2.cell? ⟨nb, noff + x.toNat * 6 + 1, none⟩ = some (.int .i64 wd) := kept_cell n1 hk2 (by simp only [ne_eq]; omega)
             obtain ⟨w3, hput, hown3, hg3⟩ := put70 (map_block HS.out.own (hk2 (w.heap.size + 1) (by omega) (by have := HS.out.sz; simp; omega))) (by have := kn_le D ns.length; omega) (x := x) (by omega) (by omega) G 0 wd.toNat wd.toNat))
         rename_i hHeld
         have hlb : (inB ns (off + j)).length = wd.toNat := by rw [HEB.out]; simp
         have hlG : G < w2.heap.size := irow_lt hr (by simp; omega)
         have hST := HS.out.step (w1 := w2) (w2 := w3) (G := G) HIL.out (inL_ne ns) (by rw [HEX.out]; exact ⟨hx0, hxl⟩) (by simpa using hG) hlG (by rw [HEB.out]; exact hr) (by rw [HET.out]; exact hcn) hfn ((Below.refl _ wr).drew.trans hb2) hk2 (by rw [HEX.out, hlb]; exact hown3) hg3
         have HSB := hide hST
         have HI2 : Hid (IntsAt w3 (some ⟨b, off1, none⟩) Sl) := by
           intro h0
           obtain ⟨b', o', e, hc⟩ := HI.out h0
           cases e
           exact ⟨b, off1, rfl, fun i hi => hg3.cell (kept_cell (hc i hi) hk2 (by simp only [ne_eq]; omega)) (by simp; omega)⟩
         clear hST hHeld hr hcn hfn hb2 hk2 hown3 hg3 hput m2 m0 m7 HNI hG j2 j0 n1 hc0 HS HI hlb hlG
         go_wp2_with fail
         go_roundw
         case rel => exact ⟨j + 1, _, by omega, by go_num, HSB, HI2⟩
         case measure => simp [intOf]; omega
       · obtain rfl : j = Sl.length := by omega
         rw [← HNX.out] at HS
         go_wp2_with fail
         go_roundw
         case rel => exact ⟨k + 1, D, by omega, by go_num, HS⟩
         case measure => simp [intOf]; omega
   · obtain rfl : k = 2 := by omega
     have HS2 : Hid (St a0 c0 ns w wr D (inL ns).length) := HS
     clear HS
     have hcnt : wr.cell? ⟨w.heap.size + 1 + 1 + 1, 0, none⟩ = some (.int .i64 (inT ns (inL ns).length : Nat)) := HS2.out.cnt
     have HF := hide (fun w1 => from_any (inT ns (inL ns).length : Nat) none 0 [] (fun i h => by simp at h) (by simp) (by omega) (by have := HTT.out; omega) w1 (fun h => by simp at h))
     go_wp2_with fail
     refine (HF.out _).mono ?_
     rintro e w4 ⟨X, Bx, vx, Dx, rfl, hmk, hmo, hmi, hb4⟩
     have HS4 := hide (HS2.out.later hb4)
     have g0 : w4.cell? ⟨w.heap.size + 1 + 1, 0, none⟩ = some (.pointer none) := HS4.out.b0
     have g1 : w4.frozen? ⟨w.heap.size + 1 + 1, 0, none⟩ = false := HS4.out.bf
     have HMK := hide (And.intro hmk (And.intro hmo (And.intro hmi hb4)))
     clear hb4 hmk hmo hmi hcnt HF
     go_wp2_with fail
     go_ret
     exact ⟨D, w4, X, Bx, vx, rfl, HS4.out, rfl, wr, HS2.out.bel, HS2.out.sz, HS2.out, HMK.out.2.2.2, HMK.out.1, Dx, HMK.out.2.1, HMK.out.2.2.1⟩
end Go.Proofs.YtabnimgpednhjabGreat.Gg
