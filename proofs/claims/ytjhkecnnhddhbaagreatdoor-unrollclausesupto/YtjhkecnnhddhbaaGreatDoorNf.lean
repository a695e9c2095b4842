/- How many ones 0 and 1 have; what is approached by one step: the walks. -/
import Derived.Test.YtjhkecnnhddhbaaGreatDoorNe
namespace Go.Proofs.YtjhkecnnhddhbaaGreatDoor.Sr
open Go.RowKit Go.Maps Go.Proofs.YtjhkecnnhddhbaaGreatDoor.Pf
set_option maxRecDepth 100000
set_option autoImplicit false

set_option maxHeartbeats 4000000 in
theorem ones64_0 (w : World) : Calls Tryz.prog 99 #[.int .u64 0] w fun e w' => e = .returned (.int .i64 0) ∧ w' = w := by
  go_enter Tryz.func99, Tryz.ntmps99
  go_wp2
  go_ret
  exact ⟨by kernel_rfl, rfl⟩
set_option maxHeartbeats 4000000 in
theorem ones64_1 (w : World) : Calls Tryz.prog 99 #[.int .u64 1] w fun e w' => e = .returned (.int .i64 1) ∧ w' = w := by
  go_enter Tryz.func99, Tryz.ntmps99
  go_wp2
  go_ret
  exact ⟨by kernel_rfl, rfl⟩
set_option maxHeartbeats 4000000 in
theorem ones_0 (w : World) : Calls Tryz.prog 79 #[.int .u64 0] w fun e w' => e = .returned (.int .i64 0) ∧ w' = w := by
  go_enter Tryz.func79, Tryz.ntmps79
  go_wp2_with fail
  refine (ones64_0 w).mono ?_
  rintro e w2 ⟨rfl, rfl⟩
  go_wp2
  go_ret
  exact ⟨rfl, rfl⟩
set_option maxHeartbeats 4000000 in
theorem ones_1 (w : World) : Calls Tryz.prog 79 #[.int .u64 1] w fun e w' => e = .returned (.int .i64 1) ∧ w' = w := by
  go_enter Tryz.func79, Tryz.ntmps79
  go_wp2_with fail
  refine (ones64_1 w).mono ?_
  rintro e w2 ⟨rfl, rfl⟩
  go_wp2
  go_ret
  exact ⟨rfl, rfl⟩
/-- What is approached: the verdict alone. -/
def ApOut (w : World) (v : Int) (e : Ending) (w' : World) : Prop := e = .returned (.int .i64 v) ∧ Below w.heap.size w w'
set_option maxHeartbeats 4000000 in
theorem approach1 (ins : Int) (va : Value) (v4 v5 v6 v7 : Value) (V : Int) (L : List (List Int)) (fuel v : Int) (hf : fuel < 1000000) (w : World)
    (hC : ∀ W, Below w.heap.size w W → Calls Tryz.prog 101 #[cir0 ins va 1 v4 v5 v6 v7, .int .i64 1] W (ClOut W V L))
    (hS : ∀ p cap rs W, ClAt W p rs → numsOf rs = L → Calls Tryz.prog 129 #[.agg #[.int .i64 V, .slice p (List.length rs) cap], .int .i64 fuel] W (SvOut W v (fun _ _ _ _ => True))) :
    Calls Tryz.prog 80 #[cir0 ins va 1 v4 v5 v6 v7, .int .i64 1, .int .i64 fuel] w (ApOut w v) := by
  have hb1 : Below w.heap.size w (w.alloc (.cells #[.int .i64 ins, va, .int .i64 0, .int .i64 (1 : Nat), v4, v5, v6, v7] 27)) := bal (Below.refl _ _) _
  have HG : Hid ((w.alloc (.cells #[.int .i64 ins, va, .int .i64 0, .int .i64 (1 : Nat), v4, v5, v6, v7] 27)).heap[w.heap.size]? = some (.cells #[.int .i64 ins, va, .int .i64 0, .int .i64 (1 : Nat), v4, v5, v6, v7] 27)) := (MapKept.heap_alloc w _).1
  have x3 : (w.alloc (.cells #[.int .i64 ins, va, .int .i64 0, .int .i64 (1 : Nat), v4, v5, v6, v7] 27)).cell? ⟨w.heap.size, 3, none⟩ = some (.int .i64 1) := by simp [go_sem]
  have HC := hide hC
  have HS := hide hS
  have HB1 := hide hb1
  clear hC hS hb1
  unfold cir0 at *
  go_enter Tryz.func80, Tryz.ntmps80
  go_wp2_with fail
  go_quiet ((go_at_call 100; refine Calls.quiet_of_same (Tryz.bits_Len 1 _ (by decide) (by decide))))
  rename_i hK
  refine hK _ _ ?_
  clear hK
  have HG2 : Hid (((w.alloc (.cells #[.int .i64 ins, va, .int .i64 0, .int .i64 1, v4, v5, v6, v7] 27)).drewN nq).heap[w.heap.size]? = some (.cells #[.int .i64 ins, va, .int .i64 0, .int .i64 1, v4, v5, v6, v7] 27)) := HG.out
  have HB2 : Hid (Below w.heap.size w ((w.alloc (.cells #[.int .i64 ins, va, .int .i64 0, .int .i64 1, v4, v5, v6, v7] 27)).drewN nq)) := below_drewN HB1.out nq
  clear HG HB1 x3
  generalize (w.alloc (.cells #[.int .i64 ins, va, .int .i64 0, .int .i64 1, v4, v5, v6, v7] 27)).drewN nq = w2 at *
  have hbl : decide ((1 : Int) < (Lib.bitLen (1 : Int).toNat : Int)) = false := by decide +kernel
  have j0 : w2.cell? ⟨w.heap.size, 0, none⟩ = some (.int .i64 ins) := by rw [Lib.cell_of_heap HG2.out]; rfl
  have j1 : w2.cell? ⟨w.heap.size, 1, none⟩ = some (va) := by rw [Lib.cell_of_heap HG2.out]; rfl
  have j2 : w2.cell? ⟨w.heap.size, 2, none⟩ = some (.int .i64 0) := by rw [Lib.cell_of_heap HG2.out]; rfl
  have j3 : w2.cell? ⟨w.heap.size, 3, none⟩ = some (.int .i64 1) := by rw [Lib.cell_of_heap HG2.out]; rfl
  have j4 : w2.cell? ⟨w.heap.size, 4, none⟩ = some (v4) := by rw [Lib.cell_of_heap HG2.out]; rfl
  have j5 : w2.cell? ⟨w.heap.size, 5, none⟩ = some (v5) := by rw [Lib.cell_of_heap HG2.out]; rfl
  have j6 : w2.cell? ⟨w.heap.size, 6, none⟩ = some (v6) := by rw [Lib.cell_of_heap HG2.out]; rfl
  have j7 : w2.cell? ⟨w.heap.size, 7, none⟩ = some (v7) := by rw [Lib.cell_of_heap HG2.out]; rfl
  have HCL := hide (HC.out w2 HB2.out)
  go_wp2_with fail
  refine HCL.out.mono ?_
  rintro e w3 ⟨p, cap, rs, rfl, hcl, hL, hb3⟩
  have HG3 : Hid (w3.heap[w.heap.size]? = some (.cells #[.int .i64 ins, va, .int .i64 0, .int .i64 1, v4, v5, v6, v7] 27)) := (hb3.block _ (Array.getElem?_eq_some_iff.1 HG2.out).1).trans HG2.out
  have HB3 := hide (bthen HB2.out hb3)
  have hb4 : Below w3.heap.size w3 (w3.alloc (.cells #[.int .i64 V, .slice p rs.length cap] 30)) := bal (Below.refl _ _) _
  have HST := hide (settle0 ins va 1 (by decide) v4 v5 v6 v7 1 (by decide) V p rs.length cap fuel v hf (fun _ _ _ _ => True) (fun _ _ _ _ _ _ _ => trivial) _ (fun W hb => HS.out p cap rs W ((hcl.later hb4).later hb) hL))
  unfold cir0 at HST
  have HG4 : Hid ((w3.alloc (.cells #[.int .i64 V, .slice p rs.length cap] 30)).heap[w.heap.size]? = some (.cells #[.int .i64 ins, va, .int .i64 0, .int .i64 1, v4, v5, v6, v7] 27)) := (hb4.block _ (Array.getElem?_eq_some_iff.1 HG3.out).1).trans HG3.out
  have HB4 := hide (bthen HB3.out hb4)
  have k0 : (w3.alloc (.cells #[.int .i64 V, .slice p rs.length cap] 30)).cell? ⟨w.heap.size, 0, none⟩ = some (.int .i64 ins) := by rw [Lib.cell_of_heap HG4.out]; rfl
  have k1 : (w3.alloc (.cells #[.int .i64 V, .slice p rs.length cap] 30)).cell? ⟨w.heap.size, 1, none⟩ = some (va) := by rw [Lib.cell_of_heap HG4.out]; rfl
  have k2 : (w3.alloc (.cells #[.int .i64 V, .slice p rs.length cap] 30)).cell? ⟨w.heap.size, 2, none⟩ = some (.int .i64 0) := by rw [Lib.cell_of_heap HG4.out]; rfl
  have k3 : (w3.alloc (.cells #[.int .i64 V, .slice p rs.length cap] 30)).cell? ⟨w.heap.size, 3, none⟩ = some (.int .i64 1) := by rw [Lib.cell_of_heap HG4.out]; rfl
  have k4 : (w3.alloc (.cells #[.int .i64 V, .slice p rs.length cap] 30)).cell? ⟨w.heap.size, 4, none⟩ = some (v4) := by rw [Lib.cell_of_heap HG4.out]; rfl
  have k5 : (w3.alloc (.cells #[.int .i64 V, .slice p rs.length cap] 30)).cell? ⟨w.heap.size, 5, none⟩ = some (v5) := by rw [Lib.cell_of_heap HG4.out]; rfl
  have k6 : (w3.alloc (.cells #[.int .i64 V, .slice p rs.length cap] 30)).cell? ⟨w.heap.size, 6, none⟩ = some (v6) := by rw [Lib.cell_of_heap HG4.out]; rfl
  have k7 : (w3.alloc (.cells #[.int .i64 V, .slice p rs.length cap] 30)).cell? ⟨w.heap.size, 7, none⟩ = some (v7) := by rw [Lib.cell_of_heap HG4.out]; rfl
  clear hcl hL hb3 hb4 HCL HG2 HG3 HB2 HB3 j0 j1 j2 j3 j4 j5 j6 j7
  go_wp2_with fail
  generalize w3.alloc (.cells #[.int .i64 V, .slice p rs.length cap] 30) = w4 at *
  refine HST.out.mono ?_
  rintro e w5 ⟨q, k, c, rfl, _, hb5⟩
  have HB5 := hide (bthen HB4.out hb5)
  clear hb5 HST k0 k1 k2 k3 k4 k5 k6 k7 HG4 HB4
  go_wp2
  go_ret
  exact ⟨rfl, HB5.out⟩
set_option maxHeartbeats 4000000 in
theorem isFar0 (ins : Int) (va : Value) (v4 v5 v6 v7 : Value) (fuel : Int) (w : World) :
    Calls Tryz.prog 57 #[cir0 ins va 1 v4 v5 v6 v7, .int .i64 0, .int .i64 fuel] w fun e w' => e = .returned (.bool false) ∧ Below w.heap.size w w' := by
  have HB1 : Hid (Below w.heap.size w (w.alloc (.cells #[.int .i64 ins, va, .int .i64 0, .int .i64 (1 : Nat), v4, v5, v6, v7] 27))) := bal (Below.refl _ _) _
  unfold cir0
  go_enter Tryz.func57, Tryz.ntmps57
  go_wp2_with fail
  refine (ones_0 _).mono ?_
  rintro e w2 ⟨rfl, rfl⟩
  go_wp2
  go_ret
  exact ⟨rfl, HB1.out⟩
set_option maxHeartbeats 4000000 in
theorem isFar1 (ins : Int) (va : Value) (v4 v5 v6 v7 : Value) (fuel f8 v : Int) (h8 : IntKind.i64.wrap (fuel.tdiv 8) = f8) (w : World)
    (hA : ∀ W, Below w.heap.size w W → Calls Tryz.prog 80 #[cir0 ins va 1 v4 v5 v6 v7, .int .i64 1, .int .i64 f8] W (ApOut W v)) :
    Calls Tryz.prog 57 #[cir0 ins va 1 v4 v5 v6 v7, .int .i64 1, .int .i64 fuel] w fun e w' => e = .returned (.bool (v == 2)) ∧ Below w.heap.size w w' := by
  have HB1 : Hid (Below w.heap.size w (w.alloc (.cells #[.int .i64 ins, va, .int .i64 0, .int .i64 (1 : Nat), v4, v5, v6, v7] 27))) := bal (Below.refl _ _) _
  have HA := hide (hA _ HB1.out)
  have k0 : (w.alloc (.cells #[.int .i64 ins, va, .int .i64 0, .int .i64 (1 : Nat), v4, v5, v6, v7] 27)).cell? ⟨w.heap.size, 0, none⟩ = some (.int .i64 ins) := by simp [go_sem]
  have k1 : (w.alloc (.cells #[.int .i64 ins, va, .int .i64 0, .int .i64 (1 : Nat), v4, v5, v6, v7] 27)).cell? ⟨w.heap.size, 1, none⟩ = some (va) := by simp [go_sem]
  have k2 : (w.alloc (.cells #[.int .i64 ins, va, .int .i64 0, .int .i64 (1 : Nat), v4, v5, v6, v7] 27)).cell? ⟨w.heap.size, 2, none⟩ = some (.int .i64 0) := by simp [go_sem]
  have k3 : (w.alloc (.cells #[.int .i64 ins, va, .int .i64 0, .int .i64 (1 : Nat), v4, v5, v6, v7] 27)).cell? ⟨w.heap.size, 3, none⟩ = some (.int .i64 1) := by simp [go_sem]
  have k4 : (w.alloc (.cells #[.int .i64 ins, va, .int .i64 0, .int .i64 (1 : Nat), v4, v5, v6, v7] 27)).cell? ⟨w.heap.size, 4, none⟩ = some (v4) := by simp [go_sem]
  have k5 : (w.alloc (.cells #[.int .i64 ins, va, .int .i64 0, .int .i64 (1 : Nat), v4, v5, v6, v7] 27)).cell? ⟨w.heap.size, 5, none⟩ = some (v5) := by simp [go_sem]
  have k6 : (w.alloc (.cells #[.int .i64 ins, va, .int .i64 0, .int .i64 (1 : Nat), v4, v5, v6, v7] 27)).cell? ⟨w.heap.size, 6, none⟩ = some (v6) := by simp [go_sem]
  have k7 : (w.alloc (.cells #[.int .i64 ins, va, .int .i64 0, .int .i64 (1 : Nat), v4, v5, v6, v7] 27)).cell? ⟨w.heap.size, 7, none⟩ = some (v7) := by simp [go_sem]
  clear hA
  unfold cir0 at *
  go_enter Tryz.func57, Tryz.ntmps57
  go_wp2_with fail
  refine (ones_1 _).mono ?_
  rintro e w2 ⟨rfl, rfl⟩
  go_wp2_with fail
  generalize w.alloc (.cells #[.int .i64 ins, va, .int .i64 0, .int .i64 1, v4, v5, v6, v7] 27) = w1 at *
  refine HA.out.mono ?_
  rintro e w3 ⟨rfl, hb3⟩
  have HB3 := hide (bthen HB1.out hb3)
  clear hb3 HA HB1 k0 k1 k2 k3 k4 k5 k6 k7
  go_wp2
  go_ret
  exact ⟨rfl, HB3.out⟩
end Go.Proofs.YtjhkecnnhddhbaaGreatDoor.Sr
