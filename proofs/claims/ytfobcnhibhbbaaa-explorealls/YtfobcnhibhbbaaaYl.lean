/- The plain text: words of a number. -/
import Derived.Test.YtfobcnhibhbbaaaYk
import Derived.Test.YtfobcnhibhbbaaaEvalBegins
import Derived.Deep.AppendLies
namespace Go.Proofs.Ytfobcnhibhbbaaa.Xp
open Go.RowKit Go.Maps
set_option maxRecDepth 100000

theorem wordsN_succ (ns : List Nd) (S : List Int) (x : Int) (k : Nat) : wordsN ns S x (k + 1) = wordsN ns S x k ++ [wordN ns S x k] := by simp [wordsN, List.range_succ]
theorem remN_bd (ns : List Nd) (S : List Int) {x : Int} (h0 : 0 ≤ x) (k : Nat) : 0 ≤ remN ns S x k ∧ remN ns S x k ≤ x := by
  induction k with
  | zero => exact ⟨h0, Int.le_refl _⟩
  | succ k ih =>
    have ht := two_pos (wdOf ns (S.getD k 0))
    refine ⟨Int.ediv_nonneg ih.1 (by omega), Int.le_trans (Int.ediv_le_self _ ih.1) ih.2⟩
theorem wordN_bd (ns : List Nd) (S : List Int) (x : Int) (k : Nat) : 0 ≤ wordN ns S x k ∧ wordN ns S x k < two (wdOf ns (S.getD k 0)) := by
  have ht := two_pos (wdOf ns (S.getD k 0))
  exact ⟨Int.emod_nonneg _ (by omega), Int.emod_lt_of_pos _ ht⟩

set_option maxHeartbeats 4000000 in
theorem wordsOf_any (a0 a1 a2 a3 a4 : Option Addr) (c0 c1 c2 c3 c4 l1 l2 l3 l4 : Nat) (ns : List Nd) (hl : ns.length ≤ 80) (hW : Wok ns) (kind x : Int) (hx : 0 ≤ x) (hx2 : x ≤ 1000000) (w : World) (hN : NodesAt w a0 ns) :
    Calls Try.prog 26 #[Mv.val ⟨a0, c0, a1, l1, c1, a2, l2, c2, a3, l3, c3, a4, l4, c4⟩ ns.length, .int .i64 kind, .int .i64 x] w fun e w' => ∃ p cap, e = .returned (.slice p (wordsN ns (sel (isK ns kind) ns.length) x (sel (isK ns kind) ns.length).length).length cap) ∧ IntsAt w' p (wordsN ns (sel (isK ns kind) ns.length) x (sel (isK ns kind) ns.length).length) ∧ Below w.heap.size w w' := by
  obtain ⟨i0, hi, hz0, hz1, hz2⟩ := info_parts info3
  have HBx := hide (Box.new w ⟨a0, c0, a1, l1, c1, a2, l2, c2, a3, l3, c3, a4, l4, c4⟩ ns.length)
  have HB0 : Hid (Below w.heap.size w (w.alloc (.cells (Mv.cells ⟨a0, c0, a1, l1, c1, a2, l2, c2, a3, l3, c3, a4, l4, c4⟩ ns.length) 26))) := bal (Below.refl _ _) _
  have HK := hide (fun (w' : World) (hb : Below w.heap.size w w') => nodesR_any ⟨a0, c0, a1, l1, c1, a2, l2, c2, a3, l3, c3, a4, l4, c4⟩ ns (by omega) kind w' (hN.later hb))
  have hsl := sel_len (isK ns kind) ns.length
  have HNN := hide hN
  have HSB : Hid (∀ k (h : k < (sel (isK ns kind) ns.length).length), 0 ≤ (sel (isK ns kind) ns.length)[k] ∧ (sel (isK ns kind) ns.length)[k] < ns.length) := fun k h => sel_bd h
  have HWD : Hid (∀ y : Int, 0 ≤ y → y < ns.length → 1 ≤ wdOf ns y ∧ wdOf ns y ≤ 8) := fun y h0 h1 => by
    have hk : y.toNat < ns.length := by omega
    unfold wdOf
    rw [List.getElem?_eq_getElem hk]
    exact hW _ hk
  clear hN hW
  generalize sel (isK ns kind) ns.length = S at *
  go_enter Try.func26, Try.ntmps26
  go_wp2_with fail
  have HBn : Hid (Below w.heap.size w ((w.alloc (.cells (Mv.cells ⟨a0, c0, a1, l1, c1, a2, l2, c2, a3, l3, c3, a4, l4, c4⟩ ns.length) 26)).alloc (.cells #[] 3))) := bal HB0.out _
  refine (HK.out _ HBn.out).mono ?_
  rintro e w1 ⟨ps, cs, rfl, hIs, hb1⟩
  have hsz1 := hb1.size
  have HO0 : Hid (w1.ownsRow (w.heap.size + 1) 3 1 (.slice (some ⟨w.heap.size + 1, 0, none⟩) 0 0) ([] : List Int).length (([] : List Int).map (Value.int .i64))) := by
    have h := World.ownsRow_lit (base := w.heap.size + 1) (e := 3) (size := 1) (w.alloc (.cells (Mv.cells ⟨a0, c0, a1, l1, c1, a2, l2, c2, a3, l3, c3, a4, l4, c4⟩ ns.length) 26)) #[] 0 (by simp) (by unfold maxLen; omega) rfl
    have h2 := owns_below h hb1
    unfold Hid
    simpa using h2
  have HF1 : Hid (∀ j, (Value.slice (some ⟨w.heap.size + 1, 0, none⟩) 0 0).ownBlock = some j → ∀ b off, ps = some ⟨b, off, none⟩ → 0 < S.length → j ≠ b) := fun j hj b off e h0 hjb => by
    obtain rfl : w.heap.size + 1 = j := by simpa [Value.ownBlock] using hj
    obtain ⟨b', o', e', hc⟩ := hIs h0
    rw [e] at e'
    cases e'
    have h1 := hc 0 h0
    rw [World.cell?_of_block (w := (w.alloc (.cells (Mv.cells ⟨a0, c0, a1, l1, c1, a2, l2, c2, a3, l3, c3, a4, l4, c4⟩ ns.length) 26)).alloc (.cells #[] 3)) (hb1.block _ (by simp; omega))] at h1
    subst hjb
    simp [go_sem] at h1
  have HX1 := hide (HBx.out.later ((bal (Below.refl _ _) (.cells #[] 3)).trans (hb1.mono (by simp))))
  have HB1 := hide (bthen HBn.out hb1)
  have HIS := hide hIs
  simp at hsz1
  clear hb1 hIs HBn HB0 HBx HK
  go_wp2_with fail
  go_loopw [2, 7, 9] (fun n v i wr => ∃ k : Nat, k ≤ S.length ∧ i = .int .i64 k ∧ n = .int .i64 (remN ns S x k) ∧ Hid (wr.ownsRow (w.heap.size + 1) 3 1 v (wordsN ns S x k).length ((wordsN ns S x k).map (Value.int .i64))) ∧ Hid (Below w.heap.size w wr ∧ Box wr w.heap.size ⟨a0, c0, a1, l1, c1, a2, l2, c2, a3, l3, c3, a4, l4, c4⟩ ns.length ∧ IntsAt wr ps S ∧ w.heap.size + 1 ≤ wr.heap.size ∧ ∀ j, v.ownBlock = some j → ∀ b off, ps = some ⟨b, off, none⟩ → 0 < S.length → j ≠ b)) (fun _ _ i _ => S.length - (intOf i).toNat)
  case atStart => exact ⟨0, Nat.zero_le _, rfl, rfl, HO0, HB1.out, HX1.out, HIS.out, by omega, HF1.out⟩
  case round =>
    clear HO0 HB1 HX1 HIS HF1
    obtain ⟨k, hk, rfl, rfl, HOW, HR⟩ := hrel
    by_cases hlt : k < S.length
    · obtain ⟨hbw, hbx, hsw, hszw, hne⟩ := HR.out
      obtain ⟨sb, so, rfl, hsc⟩ := hsw (by omega)
      have s0 := hsc k hlt
      have sbl : sb < wr.heap.size := World.block_lt_of_cell? _ _ s0
      have sne := fun j hj => hne j hj sb so rfl (by omega)
      obtain ⟨z0, z1⟩ := HSB.out k hlt
      obtain ⟨wd0, wd1⟩ := HWD.out S[k] z0 z1
      obtain ⟨nb, no, rfl, hnc⟩ := (HNN.out.later hbw) (by omega)
      have n1 := (kd_wd hnc S[k] z0 z1).2
      have j0 : wr.cell? ⟨w.heap.size, 0, none⟩ = some (.slice (some ⟨nb, no, none⟩) ns.length c0) := hbx.1
      have hkl : (k : Int) < (S.length : Int) := by omega
      have HS := hide (wordsN_succ ns S x k)
      have HE : Hid (wordN ns S x k = remN ns S x k % two (wdOf ns S[k]) ∧ remN ns S x (k + 1) = remN ns S x k / two (wdOf ns S[k])) := by unfold Hid wordN; rw [remN, getD_at hlt]; exact ⟨rfl, rfl⟩
      have hrb := remN_bd ns S hx k
      have htp := two_pos (wdOf ns S[k])
      have htl : two (wdOf ns S[k]) ≤ 256 := by
        have h := two_le (wdOf ns S[k]).toNat 8 (by omega)
        rw [show (((wdOf ns S[k]).toNat : Nat) : Int) = wdOf ns S[k] by omega] at h
        exact h
      have HT := hide (fun w' => two_any (wdOf ns S[k]) (by omega) (by omega) w')
      have HLN := hide (wordsN_len ns S x k)
      have HKEEP : Hid (∀ w3 g, (wr.alloc (.cells #[.int .i64 (remN ns S x k % two (wdOf ns S[k]))] 3)).drew.grownBy w3 u7.ownBlock → (u7.ownBlock = some g ∨ g = wr.heap.size + 1) → Below w.heap.size w w3 ∧ Box w3 w.heap.size ⟨some ⟨nb, no, none⟩, c0, a1, l1, c1, a2, l2, c2, a3, l3, c3, a4, l4, c4⟩ ns.length ∧ IntsAt w3 (some ⟨sb, so, none⟩) S ∧ w.heap.size + 1 ≤ w3.heap.size ∧ ∀ (j : Nat) (cap : Nat), (Value.slice (some ⟨g, 0, none⟩) ((wordsN ns S x k).length + 1) cap).ownBlock = some j → ∀ b off, (some ⟨sb, so, none⟩ : Option Addr) = some ⟨b, off, none⟩ → 0 < S.length → j ≠ b) := fun w3 g hg hor => by
        have hrow : ∀ j, u7.ownBlock = some j → w.heap.size + 1 ≤ j := fun j hj => (HOW.out.lt j hj).1
        have far : ∀ {q : Addr} {y : Value}, wr.cell? q = some y → some q.block ≠ u7.ownBlock → w3.cell? q = some y := fun {q y} h1 h2 => hg.cell (past1 h1 _) h2
        have nw : ∀ i, some (⟨w.heap.size, i, none⟩ : Addr).block ≠ u7.ownBlock := fun i e => by have := hrow _ e.symm; simp only at this; omega
        refine ⟨(bal hbw _).drew.grown hg (by simp; omega) (fun j hj => by have := hrow j hj; omega), ⟨far hbx.1 (nw 0), far hbx.2.1 (nw 1), far hbx.2.2.1 (nw 2), far hbx.2.2.2.1 (nw 3), far hbx.2.2.2.2 (nw 4)⟩, fun _ => ⟨sb, so, rfl, fun i hi => far (hsc i hi) (fun e => sne _ e.symm rfl)⟩, by have := hg.size; simp at this; omega, fun j cap hj b off e h0 hjb => ?_⟩
        obtain rfl : g = j := by simpa [Value.ownBlock] using hj
        cases e
        rcases hor with h | h
        · exact sne _ h hjb
        · omega
      have HOWn := hide (And.intro hrb (And.intro htp htl))
      clear hsc hnc hbx hsw hne sne HR
      generalize wdOf ns S[k] = wd at *
      generalize S[k] = sk at *
      generalize hrn : remN ns S x k = r at *
      generalize two wd = t at *
      generalize hWk : wordsN ns S x k = Wk at *
      have hq : ¬ t = 0 := by omega
      go_wp2_with fail
      go_region_held3 (fun w' => w' = wr.drew)
        (first | rfl | go_keep)
        ((go_at_call 23; refine (HT.out _).mono ?_; rintro e w2 ⟨rfl, rfl⟩))
      go_wp2_with (at_builtin; refine wpList_append_lies _ rfl _ _ 24 rfl (w.heap.size + 1) 3 i0 (.int .i64 0) 1 8 Try.underlying24 hi hz0 hz1 hz2 rfl (by decide) u7 Wk.length _ rfl (HOW.out.alloc _) ⟨wr.heap.size, 0, none⟩ 1 1 [.int .i64 (r % t)] rfl rfl ?d0 ?d1 (by omega) ?d2 ?d3 ?d4 _ rfl ?_)
      case d1 => rfl
      case d2 => unfold maxLen; rw [HLN.out]; omega
      case d3 => rw [HLN.out]; omega
      case d4 => first | omega | (simp; omega)
      intro g cap2 w3 hown3 hg3 hor hlt3
      have HK3 := hide (HKEEP.out w3 g hg3 hor)
      have HR3 : Hid (w3.ownsRow (w.heap.size + 1) 3 1 (.slice (some ⟨g, 0, none⟩) (Wk.length + 1) cap2) (wordsN ns S x (k + 1)).length ((wordsN ns S x (k + 1)).map (Value.int .i64))) := by
        rw [HS.out, HE.out.1]
        unfold Hid
        simpa using hown3
      have HE2 := hide HE.out.2
      clear hown3 hg3 hor hlt3 HOW HKEEP HE
      go_wp2_with fail
      go_roundw
      case rel => exact ⟨k + 1, by omega, by go_num, by rw [HE2.out], HR3, HK3.out.1, HK3.out.2.1, HK3.out.2.2.1, HK3.out.2.2.2.1, fun j hj => HK3.out.2.2.2.2 j cap2 hj⟩
      case measure => simp [intOf]; omega
    · obtain rfl : k = S.length := by omega
      obtain ⟨pv, cv, rfl, hiv⟩ := owns_ints HOW.out
      have HIV := hide hiv
      have HBW := hide HR.out.1
      clear hiv HOW HR
      go_wp2_with fail
      go_ret
      exact ⟨pv, cv, rfl, fun h0 => HIV.out h0, HBW.out⟩
end Go.Proofs.Ytfobcnhibhbbaaa.Xp
