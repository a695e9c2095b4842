/- What comes of a model: the plain text's words of all nodes. -/
import Derived.Test.YtfobcnhibhbbaaaEd
namespace Go.Proofs.Ytfobcnhibhbbaaa
open Go.RowKit
set_option maxRecDepth 100000

theorem madeE_one {k v a b c n wa wb : Int} (h : takes k = 1) (h4 : 4 ≤ k ∧ k ≤ 23) : madeE k v a b c n wa wb = madeE k v a 0 0 n wa wb := by
  rcases one_kinds h h4 with rfl | rfl | rfl | rfl | rfl <;> rfl
theorem madeE_two {k v a b c n wa wb : Int} (h : takes k = 2) : madeE k v a b c n wa wb = madeE k v a b 0 n wa wb := by
  have hne : ¬ k = 19 := fun e => by subst e; revert h; decide
  unfold madeE
  simp only [if_neg hne]
theorem madeE_opv {vs : List Int} {k v x y z n wa wb : Int} (h : 0 < takes k) (h4 : 4 ≤ k ∧ k ≤ 23) :
    madeE k v (opv vs (takes k) 0 x) (opv vs (takes k) 1 y) (opv vs (takes k) 2 z) n wa wb = madeE k v (vs.getD x.toNat 0) (vs.getD y.toNat 0) (vs.getD z.toNat 0) n wa wb := by
  rcases takes_op h4.1 h4.2 with ht | ht | ht
  · rw [madeE_one ht h4, madeE_one (b := vs.getD y.toNat 0) ht h4]
    unfold opv
    rw [if_pos h]
  · rw [madeE_two ht, madeE_two (c := vs.getD z.toNat 0) ht]
    unfold opv
    rw [if_pos h, if_pos (by omega)]
  · unfold opv
    rw [if_pos h, if_pos (by omega), if_pos (by omega)]

/-- The plain Made, of words of which those that are taken fit. -/
theorem madeR_any (k v a b c n wa wb wc : Int) (hfit : fitE k v n wa wb wc = 0) (ha : isW a wa = true) (hb : 1 < takes k → isW b wb = true) (w : World) :
    Calls Try.prog 44 #[.int .i64 k, .int .i64 v, .int .i64 a, .int .i64 b, .int .i64 c, .int .i64 n, arr3 wa wb wc] w fun e w' => e = .returned (.int .i64 (madeE k v a b c n wa wb)) ∧ Below w.heap.size w w' := by
  have hk := (fit_zero hfit).2.2.2.2
  rcases takes_op hk.1 hk.2 with ht | ht | ht
  · exact made1_any k v a b c n wa wb wc ht hfit ha w
  · exact made_right k v a b c n wa wb wc hfit ha (hb (by omega)) w
  · exact made_right k v a b c n wa wb wc hfit ha (hb (by omega)) w

theorem setOther {w : World} {g k j : Nat} {u v : Value} (h : k ≠ j) (hc : w.cell? ⟨g, j, none⟩ = some v) : (w.setCell ⟨g, k, none⟩ u).cell? ⟨g, j, none⟩ = some v := by
  rw [World.cell?_setCell_other _ _ _ _ (by intro e; injection e with _ e2; exact h e2)]
  exact hc

/-- Where all lies while the plain text makes the words. -/
structure VS (w wr : World) (m : Mv) (n g : Nat) (cur : List Int) : Prop where
  below : Below w.heap.size w wr
  box : Box wr w.heap.size m n
  row : IRow wr g cur
  hg : w.heap.size < g
theorem VS.later {w wr w1 : World} {m : Mv} {n g : Nat} {cur : List Int} (h : VS w wr m n g cur) (hb : Below wr.heap.size wr w1) : VS w w1 m n g cur :=
  ⟨bthen h.below hb, h.box.later hb, h.row.later hb, h.hg⟩
theorem VS.drew {w wr : World} {m : Mv} {n g : Nat} {cur : List Int} (h : VS w wr m n g cur) : VS w wr.drew m n g cur := ⟨h.below.drew, h.box, h.row, h.hg⟩
theorem VS.put {w wr : World} {m : Mv} {n g : Nat} {cur : List Int} (h : VS w wr m n g cur) (k : Nat) (x : Int) : VS w (wr.setCell ⟨g, k, none⟩ (.int .i64 x)) m n g (cur.set k x) := by
  have e3 := h.hg
  obtain ⟨q0, q1, q2, q3, q4⟩ := h.box
  exact ⟨h.below.setCell (show w.heap.size ≤ g from by omega) _, ⟨keepOther (by omega) q0, keepOther (by omega) q1, keepOther (by omega) q2, keepOther (by omega) q3, keepOther (by omega) q4⟩, h.row.set k x, e3⟩

set_option maxRecDepth 100000 in
set_option maxHeartbeats 8000000 in
theorem valuesOf_any (m : Mv) (ns : List Nd) (hl : ns.length ≤ 80) (hn : firstN (nodeAtE ns) ns.length = 0) (sts ins : List Int) (hs : wordsE ns 3 sts = 0) (hi : wordsE ns 2 ins = 0) (ps pi : Option Addr) (cs ci : Nat) (w : World) (hN : NodesAt w m.a0 ns) (hS : IntsAt w ps sts) (hI : IntsAt w pi ins) :
    Calls Try.prog 27 #[m.val ns.length, .slice ps sts.length cs, .slice pi ins.length ci] w fun e w' => ∃ g, e = .returned (.slice (some ⟨g, 0, none⟩) ns.length ns.length) ∧ IRow w' g (vals ns sts ins ns.length) ∧ Below w.heap.size w w' := by
  obtain ⟨i0, hii, hz0, hz1, hz2⟩ := info_parts info3
  obtain ⟨a0, c0, a1, l1, c1, a2, l2, c2, a3, l3, c3, a4, l4, c4⟩ := m
  simp only at hN
  have HI2 := hide (words_zero hi).2
  have HS3 := hide (words_zero hs).2
  have HLs : Hid (sts.length ≤ 80) := by rw [(words_zero hs).1]; exact Nat.le_trans (sel_len _ _) hl
  have HLi : Hid (ins.length ≤ 80) := by rw [(words_zero hi).1]; exact Nat.le_trans (sel_len _ _) hl
  have HVW := hide (vals_isW hn hs hi)
  have HNd := hide (firstN_zero.1 hn)
  have HN := hide hN
  have HIs := hide hS
  have HIi := hide hI
  clear hn hs hi hN hS hI
  have HB1 : Hid (Below w.heap.size w (w.alloc (.cells (Mv.cells ⟨a0, c0, a1, l1, c1, a2, l2, c2, a3, l3, c3, a4, l4, c4⟩ ns.length) 26))) := bal (Below.refl _ _) _
  have HBx1 := hide (Box.new w ⟨a0, c0, a1, l1, c1, a2, l2, c2, a3, l3, c3, a4, l4, c4⟩ ns.length)
  go_enter Try.func27, Try.ntmps27
  go_wp2_with (at_make; refine wpList_make_full _ rfl _ _ 24 rfl (w.heap.size + 1) 3 i0 (.int .i64 0) 1 Try.underlying24 hii hz0 hz1 .i64 .i64 _ _ ns.length rfl rfl rfl rfl (by rw [hz2]; omega) (by unfold maxLen; omega) (by simp) ?_)
  intro w3 hownM hgrowM
  have hb := (Below.refl _ _).grown hgrowM (Nat.le_refl _) (fun _ h => by cases h)
  have hR1 : IRow w3 (w.heap.size + 1) (curL ns sts ins 0) := by
    intro j hj
    have hj' : j < ns.length := by rw [curL_len (by omega)] at hj; exact hj
    refine ⟨?_, hownM.frozenAt j⟩
    rw [hownM.cellAt j (by omega)]
    simp [toList_madeCells_one, hj', curL, vals]
  have HC0 : Hid (VS w w3 ⟨a0, c0, a1, l1, c1, a2, l2, c2, a3, l3, c3, a4, l4, c4⟩ ns.length (w.heap.size + 1) (curL ns sts ins 0)) := ⟨bthen HB1.out hb, HBx1.out.later hb, hR1, by omega⟩
  have q0 := HC0.out.box.1
  clear hownM hgrowM hR1 hb HB1 HBx1
  generalize hG : w.heap.size + 1 = g at *
  clear hG
  go_wp2
  go_loopw [8, 9, 10] (fun s q i wr => ∃ k : Nat, k ≤ ns.length ∧ i = .int .i64 k ∧ s = .int .i64 (ahead ns 3 k : Nat) ∧ q = .int .i64 (ahead ns 2 k : Nat) ∧ Hid (VS w wr ⟨a0, c0, a1, l1, c1, a2, l2, c2, a3, l3, c3, a4, l4, c4⟩ ns.length g (curL ns sts ins k))) (fun _ _ i _ => ns.length - (intOf i).toNat)
  case atStart => exact ⟨0, Nat.zero_le _, rfl, rfl, rfl, HC0⟩
  case round =>
  clear q0 HC0
  obtain ⟨k, hk, rfl, rfl, rfl, HC⟩ := hrel
  have q0 := HC.out.box.1
  have hah2 : ahead ns 2 k ≤ k := sel_len _ _
  have hah3 : ahead ns 3 k ≤ k := sel_len _ _
  by_cases hlt : k < ns.length
  · obtain ⟨nb, noff, rfl, hc⟩ := HN.out (by omega)
    obtain ⟨d0, d1, d2, d3, d4, d5⟩ := hc k hlt
    have x0 := cell_later HC.out.below d0
    have x1 := cell_later HC.out.below d1
    have x2 := cell_later HC.out.below d2
    have x3 := cell_later HC.out.below d3
    have x4 := cell_later HC.out.below d4
    have x5 := cell_later HC.out.below d5
    have hkl : (k : Int) < (ns.length : Int) := by omega
    have HVA : Hid (valAt ns sts ins (vals ns sts ins k) k = if ns[k].kind = 1 then ns[k].n else if ns[k].kind = 2 then ins.getD (ahead ns 2 k) 0 else if ns[k].kind = 3 then sts.getD (ahead ns 3 k) 0
      else madeE ns[k].kind ns[k].width (opv (vals ns sts ins k) (takes ns[k].kind) 0 ns[k].a) (opv (vals ns sts ins k) (takes ns[k].kind) 1 ns[k].b) (opv (vals ns sts ins k) (takes ns[k].kind) 2 ns[k].c) ns[k].n (wds ns (takes ns[k].kind) 0 ns[k].a) (wds ns (takes ns[k].kind) 1 ns[k].b)) := by
      unfold valAt; rw [List.getElem?_eq_getElem hlt]; rfl
    have HIK : Hid (∀ q : Int, isK ns q k = (ns[k].kind == q)) := fun q => isK_at hlt
    have HZ : Hid (nodeE ns k ns[k] = 0) := by have := HNd.out k hlt; rw [nodeAtE_at hlt] at this; exact this
    clear d0 d1 d2 d3 d4 d5 hc
    generalize ns[k] = nd at *
    obtain ⟨kd, v, x, y, z, n⟩ := nd
    simp only at *
    have hkd : 1 ≤ kd ∧ kd ≤ 23 := (node_zero HZ.out).2.1
    have hcase : kd = 1 ∨ kd = 2 ∨ kd = 3 ∨ 4 ≤ kd := by omega
    rcases hcase with k1 | k2 | k3 | k4
    · subst k1
      have HV : Hid (valAt ns sts ins (vals ns sts ins k) k = n) := by rw [HVA.out]; simp [Hid]
      have HCS := hide (fun (x : Int) (h : valAt ns sts ins (vals ns sts ins k) k = x) => curL_set hlt h)
      have HK2 : Hid (isK ns 2 k = false) := HIK.out 2
      have HK3 : Hid (isK ns 3 k = false) := HIK.out 3
      have HA2 : Hid (ahead ns 2 (k + 1) = ahead ns 2 k) := ahead_no HK2.out
      have HA3 : Hid (ahead ns 3 (k + 1) = ahead ns 3 k) := ahead_no HK3.out
      have hba : Below wr.heap.size wr (wr.alloc (.cells #[.int .i64 1, .int .i64 v, .int .i64 x, .int .i64 y, .int .i64 z, .int .i64 n] 65)) := bal (Below.refl _ _) _
      have HCa := hide (HC.out.later hba)
      have n0 : (wr.alloc (.cells #[.int .i64 1, .int .i64 v, .int .i64 x, .int .i64 y, .int .i64 z, .int .i64 n] 65)).cell? ⟨wr.heap.size, 0, none⟩ = some (.int .i64 1) := by simp [go_sem]
      have n1 : (wr.alloc (.cells #[.int .i64 1, .int .i64 v, .int .i64 x, .int .i64 y, .int .i64 z, .int .i64 n] 65)).cell? ⟨wr.heap.size, 1, none⟩ = some (.int .i64 v) := by simp [go_sem]
      have n2 : (wr.alloc (.cells #[.int .i64 1, .int .i64 v, .int .i64 x, .int .i64 y, .int .i64 z, .int .i64 n] 65)).cell? ⟨wr.heap.size, 2, none⟩ = some (.int .i64 x) := by simp [go_sem]
      have n3 : (wr.alloc (.cells #[.int .i64 1, .int .i64 v, .int .i64 x, .int .i64 y, .int .i64 z, .int .i64 n] 65)).cell? ⟨wr.heap.size, 3, none⟩ = some (.int .i64 y) := by simp [go_sem]
      have n4 : (wr.alloc (.cells #[.int .i64 1, .int .i64 v, .int .i64 x, .int .i64 y, .int .i64 z, .int .i64 n] 65)).cell? ⟨wr.heap.size, 4, none⟩ = some (.int .i64 z) := by simp [go_sem]
      have n5 : (wr.alloc (.cells #[.int .i64 1, .int .i64 v, .int .i64 x, .int .i64 y, .int .i64 z, .int .i64 n] 65)).cell? ⟨wr.heap.size, 5, none⟩ = some (.int .i64 n) := by simp [go_sem]
      obtain ⟨g1, g2⟩ := HCa.out.row k (by rw [curL_len (by omega)]; omega)
      generalize (curL ns sts ins k)[k]'(by rw [curL_len (by omega)]; omega) = old at *
      have HFin := hide (HCa.out.put k n)
      rw [HCS.out _ HV.out] at HFin
      clear hba HCa HC
      go_wp2
      go_roundw
      case rel => first | exact ⟨k + 1, by omega, by go_num, (by rw [HA3.out]; try go_num), (by rw [HA2.out]; try go_num), HFin⟩ | ((repeat apply Exists.intro); exact ⟨⟨k + 1, by omega, by go_num, (by rw [HA3.out]; try go_num), (by rw [HA2.out]; try go_num), HFin⟩, rfl⟩)
      case measure => simp [intOf]; omega
    · subst k2
      have HV : Hid (valAt ns sts ins (vals ns sts ins k) k = ins.getD (ahead ns 2 k) 0) := by rw [HVA.out]; simp [Hid]
      have HCS := hide (fun (x : Int) (h : valAt ns sts ins (vals ns sts ins k) k = x) => curL_set hlt h)
      have HK2 : Hid (isK ns 2 k = true) := HIK.out 2
      have HK3 : Hid (isK ns 3 k = false) := HIK.out 3
      have HA2 : Hid (ahead ns 2 (k + 1) = ahead ns 2 k + 1) := ahead_yes HK2.out
      have HA3 : Hid (ahead ns 3 (k + 1) = ahead ns 3 k) := ahead_no HK3.out
      have hin := (HI2.out k hlt HK2.out).1
      obtain ⟨lb, loff, rfl, hlc⟩ := (HIi.out.later HC.out.below) (by omega)
      have e0 := past1 (hlc (ahead ns 2 k) hin) (.cells #[.int .i64 2, .int .i64 v, .int .i64 x, .int .i64 y, .int .i64 z, .int .i64 n] 65)
      rw [← getD_at hin] at e0
      have hinl : ((ahead ns 2 k : Nat) : Int) < (ins.length : Int) := by omega
      generalize ins.getD (ahead ns 2 k) 0 = wv at *
      clear hlc
      have hba : Below wr.heap.size wr (wr.alloc (.cells #[.int .i64 2, .int .i64 v, .int .i64 x, .int .i64 y, .int .i64 z, .int .i64 n] 65)) := bal (Below.refl _ _) _
      have HCa := hide (HC.out.later hba)
      have n0 : (wr.alloc (.cells #[.int .i64 2, .int .i64 v, .int .i64 x, .int .i64 y, .int .i64 z, .int .i64 n] 65)).cell? ⟨wr.heap.size, 0, none⟩ = some (.int .i64 2) := by simp [go_sem]
      have n1 : (wr.alloc (.cells #[.int .i64 2, .int .i64 v, .int .i64 x, .int .i64 y, .int .i64 z, .int .i64 n] 65)).cell? ⟨wr.heap.size, 1, none⟩ = some (.int .i64 v) := by simp [go_sem]
      have n2 : (wr.alloc (.cells #[.int .i64 2, .int .i64 v, .int .i64 x, .int .i64 y, .int .i64 z, .int .i64 n] 65)).cell? ⟨wr.heap.size, 2, none⟩ = some (.int .i64 x) := by simp [go_sem]
      have n3 : (wr.alloc (.cells #[.int .i64 2, .int .i64 v, .int .i64 x, .int .i64 y, .int .i64 z, .int .i64 n] 65)).cell? ⟨wr.heap.size, 3, none⟩ = some (.int .i64 y) := by simp [go_sem]
      have n4 : (wr.alloc (.cells #[.int .i64 2, .int .i64 v, .int .i64 x, .int .i64 y, .int .i64 z, .int .i64 n] 65)).cell? ⟨wr.heap.size, 4, none⟩ = some (.int .i64 z) := by simp [go_sem]
      have n5 : (wr.alloc (.cells #[.int .i64 2, .int .i64 v, .int .i64 x, .int .i64 y, .int .i64 z, .int .i64 n] 65)).cell? ⟨wr.heap.size, 5, none⟩ = some (.int .i64 n) := by simp [go_sem]
      obtain ⟨g1, g2⟩ := HCa.out.row k (by rw [curL_len (by omega)]; omega)
      generalize (curL ns sts ins k)[k]'(by rw [curL_len (by omega)]; omega) = old at *
      have HFin := hide (HCa.out.put k wv)
      rw [HCS.out _ HV.out] at HFin
      clear hba HCa HC
      go_wp2
      go_roundw
      case rel => first | exact ⟨k + 1, by omega, by go_num, (by rw [HA3.out]; try go_num), (by rw [HA2.out]; try go_num), HFin⟩ | ((repeat apply Exists.intro); exact ⟨⟨k + 1, by omega, by go_num, (by rw [HA3.out]; try go_num), (by rw [HA2.out]; try go_num), HFin⟩, rfl⟩)
      case measure => simp [intOf]; omega
    · subst k3
      have HV : Hid (valAt ns sts ins (vals ns sts ins k) k = sts.getD (ahead ns 3 k) 0) := by rw [HVA.out]; simp [Hid]
      have HCS := hide (fun (x : Int) (h : valAt ns sts ins (vals ns sts ins k) k = x) => curL_set hlt h)
      have HK2 : Hid (isK ns 2 k = false) := HIK.out 2
      have HK3 : Hid (isK ns 3 k = true) := HIK.out 3
      have HA2 : Hid (ahead ns 2 (k + 1) = ahead ns 2 k) := ahead_no HK2.out
      have HA3 : Hid (ahead ns 3 (k + 1) = ahead ns 3 k + 1) := ahead_yes HK3.out
      have hin := (HS3.out k hlt HK3.out).1
      obtain ⟨lb, loff, rfl, hlc⟩ := (HIs.out.later HC.out.below) (by omega)
      have e0 := past1 (hlc (ahead ns 3 k) hin) (.cells #[.int .i64 3, .int .i64 v, .int .i64 x, .int .i64 y, .int .i64 z, .int .i64 n] 65)
      rw [← getD_at hin] at e0
      have hinl : ((ahead ns 3 k : Nat) : Int) < (sts.length : Int) := by omega
      generalize sts.getD (ahead ns 3 k) 0 = wv at *
      clear hlc
      have hba : Below wr.heap.size wr (wr.alloc (.cells #[.int .i64 3, .int .i64 v, .int .i64 x, .int .i64 y, .int .i64 z, .int .i64 n] 65)) := bal (Below.refl _ _) _
      have HCa := hide (HC.out.later hba)
      have n0 : (wr.alloc (.cells #[.int .i64 3, .int .i64 v, .int .i64 x, .int .i64 y, .int .i64 z, .int .i64 n] 65)).cell? ⟨wr.heap.size, 0, none⟩ = some (.int .i64 3) := by simp [go_sem]
      have n1 : (wr.alloc (.cells #[.int .i64 3, .int .i64 v, .int .i64 x, .int .i64 y, .int .i64 z, .int .i64 n] 65)).cell? ⟨wr.heap.size, 1, none⟩ = some (.int .i64 v) := by simp [go_sem]
      have n2 : (wr.alloc (.cells #[.int .i64 3, .int .i64 v, .int .i64 x, .int .i64 y, .int .i64 z, .int .i64 n] 65)).cell? ⟨wr.heap.size, 2, none⟩ = some (.int .i64 x) := by simp [go_sem]
      have n3 : (wr.alloc (.cells #[.int .i64 3, .int .i64 v, .int .i64 x, .int .i64 y, .int .i64 z, .int .i64 n] 65)).cell? ⟨wr.heap.size, 3, none⟩ = some (.int .i64 y) := by simp [go_sem]
      have n4 : (wr.alloc (.cells #[.int .i64 3, .int .i64 v, .int .i64 x, .int .i64 y, .int .i64 z, .int .i64 n] 65)).cell? ⟨wr.heap.size, 4, none⟩ = some (.int .i64 z) := by simp [go_sem]
      have n5 : (wr.alloc (.cells #[.int .i64 3, .int .i64 v, .int .i64 x, .int .i64 y, .int .i64 z, .int .i64 n] 65)).cell? ⟨wr.heap.size, 5, none⟩ = some (.int .i64 n) := by simp [go_sem]
      obtain ⟨g1, g2⟩ := HCa.out.row k (by rw [curL_len (by omega)]; omega)
      generalize (curL ns sts ins k)[k]'(by rw [curL_len (by omega)]; omega) = old at *
      have HFin := hide (HCa.out.put k wv)
      rw [HCS.out _ HV.out] at HFin
      clear hba HCa HC
      go_wp2
      go_roundw
      case rel => first | exact ⟨k + 1, by omega, by go_num, (by rw [HA3.out]; try go_num), (by rw [HA2.out]; try go_num), HFin⟩ | ((repeat apply Exists.intro); exact ⟨⟨k + 1, by omega, by go_num, (by rw [HA3.out]; try go_num), (by rw [HA2.out]; try go_num), HFin⟩, rfl⟩)
      case measure => simp [intOf]; omega
    · have hop := (node_zero HZ.out).2.2.2.1 k4
      obtain ⟨i1, i2, i3, i4, i5⟩ := opE_in hop
      simp only at i1 i2 i3 i4 i5
      have ht4 := takes_op k4 hkd.2
      have hkp : 0 < k := by have := i1 (by omega); omega
      have hfit := opE_fit hop
      simp only at hfit
      have key : ∀ u : Int, 0 ≤ u ∧ u < k → isW ((vals ns sts ins k).getD u.toNat 0) (wdOf ns u) = true := by
        intro u hu
        rw [vals_at ns sts ins (show u.toNat < k by omega)]
        have := HVW.out u.toNat (by omega)
        rwa [show ((u.toNat : Nat) : Int) = u by omega] at this
      have rx : 0 ≤ x ∧ x < k := i1 (by omega)
      have ry : 0 ≤ y ∧ y < k := by
        rcases ht4 with h | h | h
        · have := i4 (by omega); omega
        · exact i2 (by omega)
        · exact i2 (by omega)
      have rz : 0 ≤ z ∧ z < k := by
        rcases ht4 with h | h | h
        · have := i5 (by omega); omega
        · have := i5 (by omega); omega
        · exact i3 (by omega)
      have ha : isW ((curL ns sts ins k).getD x.toNat 0) (wds ns (takes kd) 0 x) = true := by
        rw [curL_get (by omega), wds, if_pos (by omega)]; exact key x rx
      have HMD := hide (fun w => madeR_any kd v ((curL ns sts ins k).getD x.toNat 0) ((curL ns sts ins k).getD y.toNat 0) ((curL ns sts ins k).getD z.toNat 0) n (wds ns (takes kd) 0 x) (wds ns (takes kd) 1 y) (wds ns (takes kd) 2 z) hfit ha (fun h2 => by rw [curL_get (by omega), wds, if_pos (by omega)]; exact key y ry) w)
      have HV : Hid (valAt ns sts ins (vals ns sts ins k) k = madeE kd v ((curL ns sts ins k).getD x.toNat 0) ((curL ns sts ins k).getD y.toNat 0) ((curL ns sts ins k).getD z.toNat 0) n (wds ns (takes kd) 0 x) (wds ns (takes kd) 1 y)) := by
        rw [HVA.out, if_neg (by omega), if_neg (by omega), if_neg (by omega), curL_get (show x.toNat < k by omega), curL_get (show y.toNat < k by omega), curL_get (show z.toNat < k by omega)]
        exact madeE_opv (by omega) ⟨k4, hkd.2⟩
      have HCS := hide (fun (x : Int) (h : valAt ns sts ins (vals ns sts ins k) k = x) => curL_set hlt h)
      have HK2 : Hid (isK ns 2 k = false) := by rw [HIK.out]; simp [Hid]; omega
      have HK3 : Hid (isK ns 3 k = false) := by rw [HIK.out]; simp [Hid]; omega
      have HA2 : Hid (ahead ns 2 (k + 1) = ahead ns 2 k) := ahead_no HK2.out
      have HA3 : Hid (ahead ns 3 (k + 1) = ahead ns 3 k) := ahead_no HK3.out
      have e1 : (kd == 1) = false := by simp; omega
      have e2 : (kd == 2) = false := by simp; omega
      have e3 : (kd == 3) = false := by simp; omega
      have HWO := hide (fun (w2 : World) (hb : Below w.heap.size w w2) => widthsOf_any (some ⟨nb, noff, none⟩) c0 ns hl kd v x y z n w2 (HN.out.later hb) (by omega) (fun h => by have := i1 h; omega) (fun h => by have := i2 h; omega) (fun h => by have := i3 h; omega))
      have hba : Below wr.heap.size wr (wr.alloc (.cells #[.int .i64 kd, .int .i64 v, .int .i64 x, .int .i64 y, .int .i64 z, .int .i64 n] 65)) := bal (Below.refl _ _) _
      have HCa := hide (HC.out.later hba)
      have n0 : (wr.alloc (.cells #[.int .i64 kd, .int .i64 v, .int .i64 x, .int .i64 y, .int .i64 z, .int .i64 n] 65)).cell? ⟨wr.heap.size, 0, none⟩ = some (.int .i64 kd) := by simp [go_sem]
      have n1 : (wr.alloc (.cells #[.int .i64 kd, .int .i64 v, .int .i64 x, .int .i64 y, .int .i64 z, .int .i64 n] 65)).cell? ⟨wr.heap.size, 1, none⟩ = some (.int .i64 v) := by simp [go_sem]
      have n2 : (wr.alloc (.cells #[.int .i64 kd, .int .i64 v, .int .i64 x, .int .i64 y, .int .i64 z, .int .i64 n] 65)).cell? ⟨wr.heap.size, 2, none⟩ = some (.int .i64 x) := by simp [go_sem]
      have n3 : (wr.alloc (.cells #[.int .i64 kd, .int .i64 v, .int .i64 x, .int .i64 y, .int .i64 z, .int .i64 n] 65)).cell? ⟨wr.heap.size, 3, none⟩ = some (.int .i64 y) := by simp [go_sem]
      have n4 : (wr.alloc (.cells #[.int .i64 kd, .int .i64 v, .int .i64 x, .int .i64 y, .int .i64 z, .int .i64 n] 65)).cell? ⟨wr.heap.size, 4, none⟩ = some (.int .i64 z) := by simp [go_sem]
      have n5 : (wr.alloc (.cells #[.int .i64 kd, .int .i64 v, .int .i64 x, .int .i64 y, .int .i64 z, .int .i64 n] 65)).cell? ⟨wr.heap.size, 5, none⟩ = some (.int .i64 n) := by simp [go_sem]
      have hbox := HCa.out.box
      simp only [Box] at hbox
      obtain ⟨q0, z1, z2, z3, z4⟩ := hbox
      clear z1 z2 z3 z4
      have o1 := HCa.out.row.at x rx.1 (by rw [curL_len (by omega)]; omega)
      have o2 := HCa.out.row.at y ry.1 (by rw [curL_len (by omega)]; omega)
      have o3 := HCa.out.row.at z rz.1 (by rw [curL_len (by omega)]; omega)
      obtain ⟨g1, g2⟩ := HCa.out.row k (by rw [curL_len (by omega)]; omega)
      generalize (curL ns sts ins k)[k]'(by rw [curL_len (by omega)]; omega) = old at *
      have hNg : ¬ wr.heap.size = g := by have := World.block_lt_of_cell? _ _ (HC.out.row k (by rw [curL_len (by omega)]; omega)).1; simp at this; omega
      have hwg : ¬ w.heap.size = g := by have := HC.out.hg; omega
      obtain ⟨rx0, rx1⟩ := rx
      obtain ⟨ry0, ry1⟩ := ry
      obtain ⟨rz0, rz1⟩ := rz
      have bx : x < (ns.length : Int) := by omega
      have by' : y < (ns.length : Int) := by omega
      have bz : z < (ns.length : Int) := by omega
      generalize madeE kd v ((curL ns sts ins k).getD x.toNat 0) ((curL ns sts ins k).getD y.toNat 0) ((curL ns sts ins k).getD z.toNat 0) n (wds ns (takes kd) 0 x) (wds ns (takes kd) 1 y) = made at *
      generalize (curL ns sts ins k).getD x.toNat 0 = oa at *
      generalize (curL ns sts ins k).getD y.toNat 0 = ob at *
      generalize (curL ns sts ins k).getD z.toNat 0 = oc at *
      clear hba HC hop i1 i2 i3 i4 i5 ht4 hfit key ha HVA
      go_wp2
      generalize wr.alloc (.cells #[.int .i64 kd, .int .i64 v, .int .i64 x, .int .i64 y, .int .i64 z, .int .i64 n] 65) = wa at *
      generalize wr.heap.size = NB at *
      go_region_held3 (fun w' => w'.cell? ⟨NB, 0, none⟩ = some (.int .i64 kd) ∧ w'.cell? ⟨NB, 1, none⟩ = some (.int .i64 v) ∧ w'.cell? ⟨NB, 2, none⟩ = some (.int .i64 x) ∧ w'.cell? ⟨NB, 3, none⟩ = some (.int .i64 y) ∧ w'.cell? ⟨NB, 4, none⟩ = some (.int .i64 z) ∧ w'.cell? ⟨NB, 5, none⟩ = some (.int .i64 n) ∧ w'.cell? ⟨w.heap.size, 0, none⟩ = some (.slice (some ⟨nb, noff, none⟩) ns.length c0) ∧ w'.cell? ⟨g, x.toNat, none⟩ = some (.int .i64 oa) ∧ w'.cell? ⟨g, y.toNat, none⟩ = some (.int .i64 ob) ∧ w'.cell? ⟨g, z.toNat, none⟩ = some (.int .i64 oc))
        (first | exact ⟨n0, n1, n2, n3, n4, n5, q0, o1, o2, o3⟩ | exact ⟨cell_later hbc n0, cell_later hbc n1, cell_later hbc n2, cell_later hbc n3, cell_later hbc n4, cell_later hbc n5, cell_later hbc q0, cell_later hbc o1, cell_later hbc o2, cell_later hbc o3⟩ | (have hbe := bthen (show Below wa.drew.heap.size wa.drew _ from hbc) hbd; exact ⟨cell_later hbe n0, cell_later hbe n1, cell_later hbe n2, cell_later hbe n3, cell_later hbe n4, cell_later hbe n5, cell_later hbe q0, cell_later hbe o1, cell_later hbe o2, cell_later hbe o3⟩) | (have hbe := bthen (show Below wa.drew.heap.size wa.drew _ from hbc) hbd; exact ⟨keepOther hNg (cell_later hbe n0), keepOther hNg (cell_later hbe n1), keepOther hNg (cell_later hbe n2), keepOther hNg (cell_later hbe n3), keepOther hNg (cell_later hbe n4), keepOther hNg (cell_later hbe n5), keepOther hwg (cell_later hbe q0), setOther (by omega) (cell_later hbe o1), setOther (by omega) (cell_later hbe o2), setOther (by omega) (cell_later hbe o3)⟩) | go_keep)
        (first | (go_at_call 42; refine (HWO.out _ HCa.out.below.drew).mono ?_; rintro e w2 ⟨rfl, hbc⟩) | (go_at_call 44; refine (HMD.out _).mono ?_; rintro e w3 ⟨rfl, hbd⟩; have g1b := cell_later (bthen (show Below wa.drew.heap.size wa.drew _ from hbc) hbd) g1; have g2b := frozen_later (bthen (show Below wa.drew.heap.size wa.drew _ from hbc) hbd) g1 g2))
      all_goals
        have HFin := hide ((HCa.out.drew.later (bthen (show Below wa.drew.heap.size wa.drew _ from hbc) hbd)).put k made)
        rw [HCS.out _ HV.out] at HFin
        go_wp2
        first
          | exact ⟨⟨k + 1, by omega, by go_num, by rw [HA3.out], by rw [HA2.out], HFin⟩, by simp [intOf]; omega⟩
          | (go_roundw; (case rel => first | exact ⟨k + 1, by omega, by go_num, by rw [HA3.out], by rw [HA2.out], HFin⟩ | ((repeat apply Exists.intro); exact ⟨⟨k + 1, by omega, by go_num, by rw [HA3.out], by rw [HA2.out], HFin⟩, rfl⟩)); (case measure => simp [intOf]; omega))
  · obtain rfl : k = ns.length := by omega
    have HRw := hide HC.out.row
    have HE : Hid (curL ns sts ins ns.length = vals ns sts ins ns.length) := by unfold curL; rw [Nat.sub_self]; simp [Hid]
    rw [HE.out] at HRw
    go_wp2
    go_ret
    exact ⟨g, rfl, HRw.out, HC.out.below⟩

end Go.Proofs.Ytfobcnhibhbbaaa
