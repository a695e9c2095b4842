/- A node's line is read, and the node stands behind the others. -/
import Derived.Test.YtabnimgpednhjaaDoorJr
namespace Go.Proofs.YtabnimgpednhjaaDoor
open Go.RowKit Go.Deep
set_option maxRecDepth 100000

set_option maxHeartbeats 4000000 in
theorem node_ok (base R : Nat) (arr : Array Value) (v0 : Value) (l : List Ev.Nd) (hll : l.length ≤ 100000) (p : Option Addr) (a b : ByteArray) (rest : List ByteArray) (hrl : rest.length ≤ 100000) (ns : List Int) (x : Ev.Nd) (w : World) (hbs : base ≤ w.heap.size) (hKW : KW w) (hS : StrsAt w p (a :: b :: rest)) (hF : Fg 46 6 w base R 0 arr 53 v0 l.length (flatN l)) (hta : tellsN a = some (l.length : Int)) (hkn : kindN b ≠ 0) (hns : tellAll rest = some ns) (hnl : ns.length = manyN (kindN b)) (hx : nodeA (kindN b) ns = ndA x) :
    Calls Tryd.prog 32 #[.pointer (some ⟨R, 0, none⟩), .slice p (rest.length + 2) (rest.length + 2)] w fun e w' => e = .returned (.bool true) ∧ ∃ v', w'.heap[R]? = some (.cells (arr.setIfInBounds 0 v') 53 (0, 0)) ∧ w'.ownsRow base 46 6 v' (l ++ [x]).length (flatN (l ++ [x])) ∧ Kept w w' R v0 ∧ (v'.ownBlock = v0.ownBlock ∨ ∃ g, v'.ownBlock = some g ∧ w.heap.size ≤ g) := by
  obtain ⟨i0, hi, hz0, hz1, hz2⟩ := info_parts info47
  have hno : readB rest (manyN (kindN b)) = true := by unfold readB; rw [hns]; simpa using hnl
  have h0 : ¬ rest.length = 0 := fun e => by
    have := manyN_bd (kindN b)
    cases rest with
    | nil => simp [tellAll] at hns; subst hns; simp at hnl; omega
    | cons a l => simp at e
  obtain ⟨pv, cv, rfl⟩ := hF.slice
  have hm := hF.cell
  have HF := hide hF
  have HIN := hide (And.intro hi (And.intro hz0 (And.intro hz1 hz2)))
  have HNS := hide hns
  have HNL := hide hnl
  have HX := hide hx
  have hRw := World.block_lt_of_cell? _ _ hm
  simp only at hRw
  obtain ⟨len, hlen⟩ : ∃ len, l.length = len := ⟨_, rfl⟩
  rw [hlen] at hta hm
  have HLEN := hide hlen
  clear hF hi hz0 hz1 hz2 hns hnl hx hlen
  obtain ⟨n, hn⟩ : ∃ n, rest.length = n := ⟨_, rfl⟩
  rw [hn] at hrl h0 ⊢
  have HRL := hide hn
  clear hn
  obtain ⟨g, off, rfl, hc⟩ := hS.cell (by simp)
  have c0 := hc 0 (by simp)
  have c1 := hc 1 (by simp)
  simp only [List.getElem_cons_zero, List.getElem_cons_succ, Nat.add_zero] at c0 c1
  have hli : ¬ ((n : Int) + 2) < 2 := by omega
  have hl1 : (1 : Int) < (n : Int) + 2 := by omega
  have hl0 : (0 : Int) < (n : Int) + 2 := by omega
  have hl2 : (2 : Int) ≤ (n : Int) + 2 := by omega
  have HN := hide (number_any a w)
  rw [hta, show numR (some (len : Int)) = .tuple #[.int .i64 len, .bool true] from rfl] at HN
  have HK := hide (kindOf_any b w hKW)
  have hbA : Below w.heap.size w (w.alloc (.cells (node0 (kindN b)) 46)) := bal (Below.refl _ _) _
  have m1 := past1 hm (.cells (node0 (kindN b)) 46)
  have k0 : (w.alloc (.cells (node0 (kindN b)) 46)).cell? ⟨w.heap.size, 0, none⟩ = some (.int .i64 (kindN b)) := by
    rw [Lib.cell_of_heap (heap_alloc_new w _)]; rfl
  have HPL := hide (places_any (w0 := w) w.heap.size (w.heap.size + 1) (kindN b) (node0 (kindN b)) _ rfl (plJ_start w (kindN b) (node0 (kindN b))))
  have HRB := hide hno
  have HST := hide (fun (w' : World) (hb : Below w.heap.size w w') => strs_tail (strs_below hS hb))
  have HNA : Hid ((node0 (kindN b)).size = 6) := rfl
  generalize hnA : node0 (kindN b) = nA at *
  have HND := hide hnA
  unfold node0 at hnA
  subst hnA
  have HB := hide hbA
  clear hS hc hbA hKW hta hno
  generalize kindN b = kn at *
  have hd0 : ¬ (kn : Int) = 0 := by omega
  have hd1 : ((kn : Int) == 0) = false := by simpa using hd0
  have hd2 : decide ((kn : Int) = 0) = false := by simpa using hd0
  go_enter Tryd.func32, Tryd.ntmps32
  go_wp2_with fail
  refine HN.out.mono ?_
  rintro e w1 ⟨rfl, rfl⟩
  go_wp2_with fail
  refine HK.out.mono ?_
  rintro e w2 ⟨rfl, rfl⟩
  go_wp2_with fail
  refine HPL.out.mono ?_
  rintro e w3 ⟨rfl, ⟨⟨v, hF3⟩, hn3, hb3⟩, -⟩
  obtain ⟨q, cq, rfl, hpt⟩ := ptrs_of hF3 hn3
  have q3 := hF3.cell
  have HRN := hide (readNumbers_any w2.heap.size 46 #[.int .i64 kn, .int .i64 0, .int .i64 0, .int .i64 0, .int .i64 0, .int .i64 0] (offL kn) (some ⟨g, off + 2, none⟩) q rest.length cq rest (by have := HRL.out; omega) (by rw [offL_len]; have := manyN_bd kn; omega) (offL_in kn) w3.drew (HST.out w3 hb3) hpt hn3)
  rw [offL_len, HRB.out, HRL.out] at HRN
  have HB3 := hide hb3
  clear HPL hF3 hn3 hb3 hpt HN HK HB m1 k0 c0 c1 hm
  rw [offL_len] at q3
  have HQ : Hid (∀ w4, KB w3.drew w4 w2.heap.size → w4.cell? ⟨w2.heap.size + 1, 0, none⟩ = some (.slice q (manyN kn) cq)) := fun w4 h => KB.cell h (Nat.ne_of_gt (Nat.lt_succ_self _)) q3
  go_wp2_with fail
  go_region_held3 (fun w' => w'.cell? ⟨w2.heap.size + 1, 0, none⟩ = some (.slice q (manyN kn) cq))
    (first | exact q3 | exact q4 | go_keep)
    ((go_at_call 54; with_reducible refine HRN.out.mono ?_; rintro e w4 ⟨rfl, hb4, hk4, hst4⟩; have q4 := HQ.out _ hk4))
  have hbw := HB3.out.drew.trans hb4
  have hBn : w4.heap[w2.heap.size]? = some (.cells (ndA x) 46 (0, 0)) := by
    rw [hst4 ns HNS.out HNL.out, ← HX.out]
    unfold nodeA node0
    rw [offL_len]
  unfold ndA at hBn
  have n0 : w4.cell? ⟨w2.heap.size, 0, none⟩ = some (.int .i64 x.kind) := by rw [Lib.cell_of_heap hBn]; rfl
  have n1 : w4.cell? ⟨w2.heap.size, 1, none⟩ = some (.int .i64 x.width) := by rw [Lib.cell_of_heap hBn]; rfl
  have n2 : w4.cell? ⟨w2.heap.size, 2, none⟩ = some (.int .i64 x.a) := by rw [Lib.cell_of_heap hBn]; rfl
  have n3 : w4.cell? ⟨w2.heap.size, 3, none⟩ = some (.int .i64 x.b) := by rw [Lib.cell_of_heap hBn]; rfl
  have n4 : w4.cell? ⟨w2.heap.size, 4, none⟩ = some (.int .i64 x.c) := by rw [Lib.cell_of_heap hBn]; rfl
  have n5 : w4.cell? ⟨w2.heap.size, 5, none⟩ = some (.int .i64 x.n) := by rw [Lib.cell_of_heap hBn]; rfl
  have hF1 := HF.out.later hbw
  have m4 := hF1.cell
  have f4 : w4.frozen? ⟨R, 0, none⟩ = false := Lib.frozen_of_heap hF1.c 0
  have HF1 := hide hF1
  have HBW := hide hbw
  have hsz := hbw.size
  have hR1 := World.block_lt_of_cell? _ _ m4
  simp only at hR1
  have hR2 := World.new_ne w4 ⟨R, 0, none⟩ m4
  simp only at hR2
  clear hb4 hk4 q4 hst4 hBn hbw hF1 HRN HB3 HQ q3
  have hFd : Fg 46 6 w4.drew base R 0 arr 53 (.slice pv l.length cv) l.length (flatN l) := ⟨HF1.out.c, HF1.out.at', HF1.out.row, HF1.out.hR⟩
  have hFa := hFd.later (bal (Below.refl _ _) (.cells (ndA x) 46))
  have hne := ownBlock_neG hFa.row hFa.c (by decide)
  unfold ndA at hFa
  have HFD := hide hFd
  have HFA := hide hFa
  have HNE := hide hne
  clear hFd hFa hne
  have hsn := six_news x w4.drew
  unfold ndA at hsn
  have HSN := hide hsn
  clear hsn
  go_wp2_with fail
  go_region_law (refine step_append_lies _ rfl (.tmp 53) (.tmp 55) 22 rfl base 46 i0 (.agg #[.int .i64 0, .int .i64 0, .int .i64 0, .int .i64 0, .int .i64 0, .int .i64 0]) 6 48 Tryd.underlying22 HIN.out.1 HIN.out.2.1 HIN.out.2.2.1 HIN.out.2.2.2 rfl (by decide) _ l.length (flatN l) (by simp [Act.eval]) (HFD.out.row.alloc _) ⟨w4.heap.size, 0, none⟩ 1 1 (ndL x) (by simp [Act.eval]) rfl HSN.out (six_cell x) (by decide) (by unfold maxLen; omega) (by omega) (by simp; omega) (w4.heap.size + 1) (by simp) ?_
                 intro g cap w5 hown5 hg5 hat5 hlt5
                 have t5 : w5.heap[R]? = some (.cells arr 53 (0, 0)) := (hg5.block _ (Array.getElem?_eq_some_iff.1 HFA.out.c).1 (fun e => HNE.out e.symm)).trans HFA.out.c
                 have g5 : w5.cell? ⟨R, 0, none⟩ = some (.slice pv l.length cv) := by rw [Lib.cell_of_heap t5]; exact HFA.out.at'
                 have f5 : w5.frozen? ⟨R, 0, none⟩ = false := Lib.frozen_of_heap t5 0)
  all_goals
    have hpt := HF1.out.put (v' := .slice (some ⟨g, 0, none⟩) (l.length + 1) cap) (n' := (l ++ [x]).length) (vs' := flatN (l ++ [x])) hbs HBW.out (by decide) (bal (Below.refl _ w4) (.cells #[.int .i64 x.kind, .int .i64 x.width, .int .i64 x.a, .int .i64 x.b, .int .i64 x.c, .int .i64 x.n] 46)).drew hg5 (by rw [flatN_app]; simpa using hown5)
    have HPT := hide hpt
    have HAT : Hid ((Value.slice (some ⟨g, 0, none⟩) (l.length + 1) cap).ownBlock = (Value.slice pv l.length cv).ownBlock ∨ ∃ g', (Value.slice (some ⟨g, 0, none⟩) (l.length + 1) cap).ownBlock = some g' ∧ w2.heap.size ≤ g') := by
      rcases hat5 with e | e
      · exact .inl e.symm
      · exact .inr ⟨g, rfl, by omega⟩
    clear hpt hat5 hown5 hg5
    go_wp2_with fail
    go_ret
    exact ⟨rfl, _, HPT.out.1, HPT.out.2.1, HPT.out.2.2, HAT.out⟩
end Go.Proofs.YtabnimgpednhjaaDoor
