/- A node's line is read: its numbers. -/
import Derived.Test.YtabnimgpednhjaaDoorJqM
namespace Go.Proofs.YtabnimgpednhjaaDoor
open Go.RowKit Go.Deep
set_option maxRecDepth 100000

theorem info47 : (Tryd.prog.info? 46).map (fun i => (i.zero, i.size, i.bytes)) = some (some (.agg #[.int .i64 0, .int .i64 0, .int .i64 0, .int .i64 0, .int .i64 0, .int .i64 0]), 6, 48) := by kernel_rfl
def ndL (x : Ev.Nd) : List Value := [.int .i64 x.kind, .int .i64 x.width, .int .i64 x.a, .int .i64 x.b, .int .i64 x.c, .int .i64 x.n]
def ndA (x : Ev.Nd) : Array Value := #[.int .i64 x.kind, .int .i64 x.width, .int .i64 x.a, .int .i64 x.b, .int .i64 x.c, .int .i64 x.n]
def flatN (l : List Ev.Nd) : List Value := l.flatMap ndL
theorem flatN_app (l : List Ev.Nd) (x : Ev.Nd) : flatN (l ++ [x]) = flatN l ++ ndL x := by simp [flatN]
theorem six_news (x : Ev.Nd) (w : World) : ∀ j u, (ndL x)[j]? = some u → (w.alloc (.cells (ndA x) 46)).cell? ((⟨w.heap.size, 0, none⟩ : Addr).add j) = some u := fun j u hj => by
  rw [show (⟨w.heap.size, 0, none⟩ : Addr).add j = ⟨w.heap.size, j, none⟩ by simp [Addr.add, eq_comm], Lib.cell_of_heap (heap_alloc_new w _)]
  rw [← hj, ← Array.getElem?_toList]
  rfl
theorem six_cell (x : Ev.Nd) : ∀ u ∈ ndL x, u.oneCell' = true := fun u hu => by
  simp only [ndL, List.mem_cons, List.not_mem_nil, or_false] at hu
  rcases hu with rfl | rfl | rfl | rfl | rfl | rfl <;> rfl
theorem plJ_start (w : World) (k : Int) (arr : Array Value) : PlJ w w.heap.size (w.heap.size + 1) k arr 0 ((w.alloc (.cells arr 46)).alloc (.cells #[.slice none 0 0] 107)) := by
  refine ⟨⟨.slice none 0 0, ?_, rfl, ⟨rfl, .inl ⟨rfl, rfl⟩⟩, by omega⟩, alloc_was (heap_alloc_new w _), bal (bal (Below.refl _ _) _) _⟩
  have := heap_alloc_new (w.alloc (.cells arr 46)) (.cells #[.slice none 0 0] 107)
  simpa using this

theorem strs_none {w : World} {p : Option Addr} {rest : List ByteArray} (h : rest.length = 0) : StrsAt w p rest := fun h0 => by omega

set_option maxHeartbeats 4000000 in
theorem node_no2 (R : Nat) (p : Option Addr) (a b : ByteArray) (rest : List ByteArray) (hrl : rest.length ≤ 100000) (pv : Option Addr) (cv len : Nat) (w : World) (hKW : KW w) (hS : StrsAt w p (a :: b :: rest)) (hm : w.cell? ⟨R, 0, none⟩ = some (.slice pv len cv)) (hta : tellsN a = some (len : Int)) (hkn : kindN b ≠ 0) (hno : readB rest (manyN (kindN b)) = false) :
    Calls Tryd.prog 32 #[.pointer (some ⟨R, 0, none⟩), .slice p (rest.length + 2) (rest.length + 2)] w fun e w' => e = .returned (.bool false) ∧ Below w.heap.size w w' := by
  obtain ⟨n, hn⟩ : ∃ n, rest.length = n := ⟨_, rfl⟩
  rw [hn] at hrl ⊢
  have HRL := hide hn
  clear hn
  obtain ⟨g, off, rfl, hc⟩ := hS.cell (by simp)
  have c0 := hc 0 (by simp)
  have c1 := hc 1 (by simp)
  simp only [List.getElem_cons_zero, List.getElem_cons_succ, Nat.add_zero] at c0 c1
  have hli : ¬ ((n : Int) + 2) < 2 := by omega
  have hl1 : (1 : Int) < (n : Int) + 2 := by omega
  have hl0 : (0 : Int) < (n : Int) + 2 := by omega
  have hl2 : (2 : Int) ≤ (n : Int) + 2 := by omega
  have HN := hide (number_any a w)
  rw [hta, show numR (some (len : Int)) = .tuple #[.int .i64 len, .bool true] from rfl] at HN
  have HK := hide (kindOf_any b w hKW)
  have hbA : Below w.heap.size w (w.alloc (.cells (node0 (kindN b)) 46)) := bal (Below.refl _ _) _
  have m1 := past1 hm (.cells (node0 (kindN b)) 46)
  have k0 : (w.alloc (.cells (node0 (kindN b)) 46)).cell? ⟨w.heap.size, 0, none⟩ = some (.int .i64 (kindN b)) := by
    rw [Lib.cell_of_heap (heap_alloc_new w _)]; rfl
  have HPL := hide (places_any (w0 := w) w.heap.size (w.heap.size + 1) (kindN b) (node0 (kindN b)) _ rfl (plJ_start w (kindN b) (node0 (kindN b))))
  have HRB := hide hno
  have HST := hide (fun (w' : World) (hb : Below w.heap.size w w') => strs_tail (strs_below hS hb))
  have HNA : Hid ((node0 (kindN b)).size = 6) := rfl
  generalize hnA : node0 (kindN b) = nA at *
  have HND := hide hnA
  unfold node0 at hnA
  subst hnA
  have HB := hide hbA
  clear hS hc hbA hKW hta hno
  generalize kindN b = kn at *
  have hd0 : ¬ (kn : Int) = 0 := by omega
  have hd1 : ((kn : Int) == 0) = false := by simpa using hd0
  have hd2 : decide ((kn : Int) = 0) = false := by simpa using hd0
  by_cases h0 : n = 0
  · subst h0
    go_enter Tryd.func32, Tryd.ntmps32
    go_wp2_with fail
    refine HN.out.mono ?_
    rintro e w1 ⟨rfl, rfl⟩
    go_wp2_with fail
    refine HK.out.mono ?_
    rintro e w2 ⟨rfl, rfl⟩
    go_wp2_with fail
    refine HPL.out.mono ?_
    rintro e w3 ⟨rfl, ⟨⟨v, hF3⟩, hn3, hb3⟩, -⟩
    obtain ⟨q, cq, rfl, hpt⟩ := ptrs_of hF3 hn3
    have q3 := hF3.cell
    have HRN := hide (readNumbers_any w2.heap.size 46 #[.int .i64 kn, .int .i64 0, .int .i64 0, .int .i64 0, .int .i64 0, .int .i64 0] (offL kn) (some ⟨g, off, none⟩) q rest.length cq rest (by have := HRL.out; omega) (by rw [offL_len]; have := manyN_bd kn; omega) (offL_in kn) w3.drew (strs_none HRL.out) hpt hn3)
    rw [offL_len, HRB.out, HRL.out] at HRN
    have HB3 := hide hb3
    clear HPL hF3 hn3 hb3 hpt HN HK HB m1 k0 c0 c1 hm
    rw [offL_len] at q3
    have HQ : Hid (∀ w4, KB w3.drew w4 w2.heap.size → w4.cell? ⟨w2.heap.size + 1, 0, none⟩ = some (.slice q (manyN kn) cq)) := fun w4 h => KB.cell h (Nat.ne_of_gt (Nat.lt_succ_self _)) q3
    go_wp2_with fail
    go_region_held3 (fun w' => w'.cell? ⟨w2.heap.size + 1, 0, none⟩ = some (.slice q (manyN kn) cq))
      (first | exact q3 | exact q4 | go_keep)
      ((go_at_call 54; with_reducible refine HRN.out.mono ?_; rintro e w4 ⟨rfl, hb4, hk4, -⟩; have q4 := HQ.out _ hk4))
    have HB4 := hide (HB3.out.drew.trans hb4)
    clear hb4 hk4 q4
    go_wp2_with fail
    go_ret
    exact ⟨rfl, HB4.out⟩
  · go_enter Tryd.func32, Tryd.ntmps32
    go_wp2_with fail
    refine HN.out.mono ?_
    rintro e w1 ⟨rfl, rfl⟩
    go_wp2_with fail
    refine HK.out.mono ?_
    rintro e w2 ⟨rfl, rfl⟩
    go_wp2_with fail
    refine HPL.out.mono ?_
    rintro e w3 ⟨rfl, ⟨⟨v, hF3⟩, hn3, hb3⟩, -⟩
    obtain ⟨q, cq, rfl, hpt⟩ := ptrs_of hF3 hn3
    have q3 := hF3.cell
    have HRN := hide (readNumbers_any w2.heap.size 46 #[.int .i64 kn, .int .i64 0, .int .i64 0, .int .i64 0, .int .i64 0, .int .i64 0] (offL kn) (some ⟨g, off + 2, none⟩) q rest.length cq rest (by have := HRL.out; omega) (by rw [offL_len]; have := manyN_bd kn; omega) (offL_in kn) w3.drew (HST.out w3 hb3) hpt hn3)
    rw [offL_len, HRB.out, HRL.out] at HRN
    have HB3 := hide hb3
    clear HPL hF3 hn3 hb3 hpt HN HK HB m1 k0 c0 c1 hm
    rw [offL_len] at q3
    have HQ : Hid (∀ w4, KB w3.drew w4 w2.heap.size → w4.cell? ⟨w2.heap.size + 1, 0, none⟩ = some (.slice q (manyN kn) cq)) := fun w4 h => KB.cell h (Nat.ne_of_gt (Nat.lt_succ_self _)) q3
    go_wp2_with fail
    go_region_held3 (fun w' => w'.cell? ⟨w2.heap.size + 1, 0, none⟩ = some (.slice q (manyN kn) cq))
      (first | exact q3 | exact q4 | go_keep)
      ((go_at_call 54; with_reducible refine HRN.out.mono ?_; rintro e w4 ⟨rfl, hb4, hk4, -⟩; have q4 := HQ.out _ hk4))
    have HB4 := hide (HB3.out.drew.trans hb4)
    clear hb4 hk4 q4
    go_wp2_with fail
    go_ret
    exact ⟨rfl, HB4.out⟩
end Go.Proofs.YtabnimgpednhjaaDoor
