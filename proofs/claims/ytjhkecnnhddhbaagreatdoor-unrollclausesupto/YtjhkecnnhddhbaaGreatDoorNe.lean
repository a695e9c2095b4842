/- What is reached by so many steps, of a circuit without inputs, by what Clauses and Solve leave: the walk. -/
import Derived.Test.YtjhkecnnhddhbaaGreatDoorNd
namespace Go.Proofs.YtjhkecnnhddhbaaGreatDoor.Sr
open Go.RowKit Go.Maps Go.Proofs.YtjhkecnnhddhbaaGreatDoor.Pf
set_option maxRecDepth 100000
set_option autoImplicit false

/-- What makes clauses leaves, where they may be. -/
def ClOut (w : World) (V : Int) (L : List (List Int)) (e : Ending) (w' : World) : Prop := ∃ p cap rs, e = .returned (.tuple #[.agg #[.int .i64 V, .slice p (List.length rs) cap], .int .i64 0]) ∧ ClAt w' p rs ∧ numsOf rs = L ∧ Below w.heap.size w w'
set_option maxHeartbeats 4000000 in
theorem reach0 (ins : Int) (va : Value) (st : Nat) (hst : st ≤ 900) (v4 v5 v6 v7 : Value) (steps : Nat) (hs : steps ≤ 40) (V : Int) (L : List (List Int)) (fuel v : Int) (hf : fuel < 1000000) (Pv : Option Addr → Nat → Nat → World → Prop) (hP : ∀ q k c w w', Pv q k c w → Below w.heap.size w w' → Pv q k c w') (w : World)
    (hC : ∀ W, Below w.heap.size w W → Calls Tryz.prog 4 #[cir0 ins va st v4 v5 v6 v7, .int .i64 steps, .bool true] W (ClOut W V L))
    (hS : ∀ p cap rs W, ClAt W p rs → numsOf rs = L → Calls Tryz.prog 129 #[.agg #[.int .i64 V, .slice p (List.length rs) cap], .int .i64 fuel] W (SvOut W v Pv)) :
    Calls Tryz.prog 58 #[cir0 ins va st v4 v5 v6 v7, .int .i64 steps, .int .i64 fuel] w (HvOut w v Pv) := by
  have hb1 : Below w.heap.size w (w.alloc (.cells #[.int .i64 ins, va, .int .i64 0, .int .i64 st, v4, v5, v6, v7] 27)) := bal (Below.refl _ _) _
  have HG : Hid ((w.alloc (.cells #[.int .i64 ins, va, .int .i64 0, .int .i64 st, v4, v5, v6, v7] 27)).heap[w.heap.size]? = some (.cells #[.int .i64 ins, va, .int .i64 0, .int .i64 st, v4, v5, v6, v7] 27)) := (MapKept.heap_alloc w _).1
  have HCL := hide (hC _ hb1)
  have HS := hide hS
  have HP := hide hP
  have HB1 := hide hb1
  clear hC hS hP hb1
  unfold cir0 at *
  go_enter Tryz.func58, Tryz.ntmps58
  go_wp2_with fail
  generalize w.alloc (.cells #[.int .i64 ins, va, .int .i64 0, .int .i64 st, v4, v5, v6, v7] 27) = w1 at *
  refine HCL.out.mono ?_
  rintro e w2 ⟨p, cap, rs, rfl, hcl, hL, hb2⟩
  have HG2 : Hid (w2.heap[w.heap.size]? = some (.cells #[.int .i64 ins, va, .int .i64 0, .int .i64 st, v4, v5, v6, v7] 27)) := (hb2.block _ (Array.getElem?_eq_some_iff.1 HG.out).1).trans HG.out
  have HB2 := hide (bthen HB1.out hb2)
  have hb3 : Below w2.heap.size w2 (w2.alloc (.cells #[.int .i64 V, .slice p rs.length cap] 30)) := bal (Below.refl _ _) _
  have HST := hide (settle0 ins va st hst v4 v5 v6 v7 steps hs V p rs.length cap fuel v hf Pv HP.out _ (fun W hb => HS.out p cap rs W ((hcl.later hb3).later hb) hL))
  unfold cir0 at HST
  have HG3 := hide ((hb3.block _ (Array.getElem?_eq_some_iff.1 HG2.out).1).trans HG2.out)
  have HB3 := hide (bthen HB2.out hb3)
  have k0 : (w2.alloc (.cells #[.int .i64 V, .slice p rs.length cap] 30)).cell? ⟨w.heap.size, 0, none⟩ = some (.int .i64 ins) := by rw [Lib.cell_of_heap HG3.out]; rfl
  have k1 : (w2.alloc (.cells #[.int .i64 V, .slice p rs.length cap] 30)).cell? ⟨w.heap.size, 1, none⟩ = some (va) := by rw [Lib.cell_of_heap HG3.out]; rfl
  have k2 : (w2.alloc (.cells #[.int .i64 V, .slice p rs.length cap] 30)).cell? ⟨w.heap.size, 2, none⟩ = some (.int .i64 0) := by rw [Lib.cell_of_heap HG3.out]; rfl
  have k3 : (w2.alloc (.cells #[.int .i64 V, .slice p rs.length cap] 30)).cell? ⟨w.heap.size, 3, none⟩ = some (.int .i64 st) := by rw [Lib.cell_of_heap HG3.out]; rfl
  have k4 : (w2.alloc (.cells #[.int .i64 V, .slice p rs.length cap] 30)).cell? ⟨w.heap.size, 4, none⟩ = some (v4) := by rw [Lib.cell_of_heap HG3.out]; rfl
  have k5 : (w2.alloc (.cells #[.int .i64 V, .slice p rs.length cap] 30)).cell? ⟨w.heap.size, 5, none⟩ = some (v5) := by rw [Lib.cell_of_heap HG3.out]; rfl
  have k6 : (w2.alloc (.cells #[.int .i64 V, .slice p rs.length cap] 30)).cell? ⟨w.heap.size, 6, none⟩ = some (v6) := by rw [Lib.cell_of_heap HG3.out]; rfl
  have k7 : (w2.alloc (.cells #[.int .i64 V, .slice p rs.length cap] 30)).cell? ⟨w.heap.size, 7, none⟩ = some (v7) := by rw [Lib.cell_of_heap HG3.out]; rfl
  clear hcl hL hb2 hb3 HCL HG HB1
  go_wp2_with fail
  generalize w2.alloc (.cells #[.int .i64 V, .slice p rs.length cap] 30) = w3 at *
  refine HST.out.mono ?_
  rintro e w4 ⟨q, k, c, rfl, hpv, hb4⟩
  have HPV := hide hpv
  have HB4 := hide (bthen HB3.out hb4)
  clear hpv hb4 HST k0 k1 k2 k3 k4 k5 k6 k7 HG2 HG3 HB2 HB3
  go_wp2
  go_ret2
  exact ⟨q, k, c, rfl, HPV.out, HB4.out⟩
end Go.Proofs.YtjhkecnnhddhbaaGreatDoor.Sr
